"""Settings, logs, and what a unit does, read from their texts."""

from lanebanks.distances import GREATEST
from lanebanks.errors import BadSet, BadText
from lanebanks.lines import check_no_line, check_no_word, lines_of, number_in, word_in, words_at
from lanebanks.rules import Rule
from lanebanks.seen import Log
from lanebanks.sets import NumberSet
from lanebanks.texts import GREATEST_PART, GREATEST_STRIDE, ROW_PARTS
from lanebanks.units import MOST_LANES, Clash, Free
from lanebanks.wording import whole_in


def read_setting(text):
    """The rule, the number of lanes and the starts with this text."""
    lines = lines_of(text)
    rule = rule_in(words_at(lines, 0))
    words = words_at(lines, 1)
    word_in(words, 1, 0, ("lanes",))
    lanes = number_in(words, 1, 1, 2, MOST_LANES)
    check_no_word(words, 1, 2)
    words = words_at(lines, 2)
    try:
        starts = starts_in(words)
    except BadSet:
        # A line that cannot stand is told ahead of what is wrong with the set.
        check_no_line(lines, 3)
        raise
    check_no_line(lines, 3)
    return rule, lanes, starts


def rule_in(words):
    """The rule that the words of the first line of a setting tell."""
    word_in(words, 0, 0, ("rule",))
    try:
        return Rule.read(" ".join(words[1:]))
    except BadText as error:
        raise BadText(0, 1 + error.word)


def starts_in(words):
    """The starts that the words of the third line of a setting tell, None for all."""
    word_in(words, 2, 0, ("starts",))
    if words[1:2] == ["all"]:
        check_no_word(words, 2, 2)
        return None
    try:
        return NumberSet.read(" ".join(words[1:]))
    except BadText as error:
        raise BadText(2, 1 + error.word)


def read_log(text):
    """The log with this text."""
    lines = lines_of(text)
    first_words = words_at(lines, 0)
    if first_words[0] == "-":
        check_no_word(first_words, 0, 1)
        check_no_line(lines, 1)
        return Log()
    entries = [entry_in(words_at(lines, line), line) for line in range(len(lines))]
    return Log(*entries)


def entry_in(words, line):
    """The entry that the words of a line tell."""
    first = number_in(words, line, 0, 0, GREATEST)
    second = number_in(words, line, 1, 0, GREATEST)
    word = word_in(words, line, 2, ("met", "apart"))
    check_no_word(words, line, 3)
    return first, second, word == "met"


def read_unit(text):
    """What a unit does, a Clash or a Free, with this text."""
    lines = lines_of(text)
    words = words_at(lines, 0)
    if word_in(words, 0, 0, ("clash", "free")) == "clash":
        paper = clash_in(words)
        check_no_line(lines, 1)
        return paper
    check_no_word(words, 0, 1)
    return Free(tables_in(lines))


def clash_in(words):
    """The Clash that the words of the first line tell."""
    stride = number_in(words, 0, 1, 0, GREATEST_STRIDE)
    start = number_in(words, 0, 2, 0, GREATEST_STRIDE)
    one = number_in(words, 0, 3, 0, MOST_LANES - 1)
    other = number_in(words, 0, 4, 0, MOST_LANES - 1)
    check_no_word(words, 0, 5)
    return Clash(stride, start, one, other)


def tables_in(lines):
    """The tuple of the tables that the lines behind the first one tell."""
    tables = []
    known = {}
    for line in range(1, len(lines)):
        words = words_at(lines, line)
        if words[0] == "table":
            check_no_word(words, line, 1)
            tables.append([])
        elif not tables:
            raise BadText(line, 0)
        else:
            tables[-1].append(row_in(words, line, known))
    return tuple([tuple(table) for table in tables])


def row_in(words, line, known):
    """The row that the words of a line tell.

    known keeps the integers of words that came before: there are far more words than unlike ones.
    """
    row = []
    for at, word in enumerate(words[:ROW_PARTS]):
        if word not in known:
            known[word] = whole_in(word, GREATEST_PART)
        if known[word] is None:
            raise BadText(line, at)
        row.append(known[word])
    if len(words) != ROW_PARTS:
        raise BadText(line, len(row))
    return tuple(row)
