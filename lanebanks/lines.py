"""Lines of a text, and the words in them that can stand."""

from lanebanks.errors import BadText
from lanebanks.wording import whole_in


def lines_of(text):
    """The lines of a text; refused if it is no string."""
    if not isinstance(text, str):
        raise BadText(0, 0)
    return text.split("\n")


def words_at(lines, line):
    """The words of a line with an index; refused if the line is missing."""
    if line >= len(lines):
        raise BadText(len(lines), 0)
    return lines[line].split(" ")


def check_no_line(lines, line):
    """Raise if there is a line with an index."""
    if line < len(lines):
        raise BadText(line, 0)


def word_in(words, line, at, choices):
    """The word with an index of a line, which must be one of some choices."""
    if at >= len(words) or words[at] not in choices:
        raise BadText(line, at)
    return words[at]


def number_in(words, line, at, least, most):
    """The integer from least to most that stands at an index of a line."""
    number = whole_in(words[at], most) if at < len(words) else None
    if number is None or number < least:
        raise BadText(line, at)
    return number


def check_no_word(words, line, at):
    """Raise if a line has a word with an index."""
    if at < len(words):
        raise BadText(line, at)
