"""The normal form of a table of states."""

from lanebanks.tables import sources_of


def blocks_of(nexts, marks):
    """For each state the number of its block: states are in one block if they are alike.

    Blocks are parted by the states that lead into one of them. Of the two parts of a block the
    lesser one is looked at again, so that long tables take little time (Hopcroft).
    """
    sources = (sources_of(nexts, 0), sources_of(nexts, 1))
    block_of = [1 if mark else 0 for mark in marks]
    blocks = {}
    blocks[0] = {state: True for state, mark in enumerate(marks) if not mark}
    blocks[1] = {state: True for state, mark in enumerate(marks) if mark}
    waiting = [0, 1]
    is_waiting = [True, True]
    while waiting:
        block = waiting.pop()
        is_waiting[block] = False
        ends = list(blocks[block])
        for leading in sources:
            hits = {}
            for end in ends:
                for state in leading[end]:
                    hits.setdefault(block_of[state], []).append(state)
            for hit, states in hits.items():
                if len(states) < len(blocks[hit]):
                    fresh = len(blocks)
                    blocks[fresh] = {state: True for state in states}
                    for state in states:
                        del blocks[hit][state]
                        block_of[state] = fresh
                    is_fresh = is_waiting[hit] or len(states) <= len(blocks[hit])
                    is_waiting.append(is_fresh)
                    is_waiting[hit] = is_waiting[hit] or not is_fresh
                    waiting.append(fresh if is_fresh else hit)
    return block_of


def normal_form(nexts, marks):
    """The pair of the nexts and the marks of the normal form."""
    block_of = blocks_of(nexts, marks)
    numbers = {block_of[0]: 0}
    firsts = [0]
    table = []
    while len(table) < len(firsts):
        ends = nexts[firsts[len(table)]]
        for end in ends:
            if block_of[end] not in numbers:
                numbers[block_of[end]] = len(firsts)
                firsts.append(end)
        table.append((numbers[block_of[ends[0]]], numbers[block_of[ends[1]]]))
    return tuple(table), tuple([marks[state] for state in firsts])
