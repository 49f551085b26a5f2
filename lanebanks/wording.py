"""How integers stand in texts."""

DIGITS = "0123456789"


def whole_in(word, most):
    """The integer from 0 to most that a word tells as str writes it, None if it tells none."""
    if not 1 <= len(word) <= len(str(most)) or not all([letter in DIGITS for letter in word]):
        return None
    number = int(word)
    if number > most or str(number) != word:
        return None
    return number


def spaced(numbers):
    """The integers with single spaces between, `-` for none."""
    return " ".join([str(number) for number in numbers]) if numbers else "-"


def signed_in(word, most):
    """The integer from -most to most that a word tells as str writes it, None if it tells none."""
    if word[:1] != "-":
        return whole_in(word, most)
    number = whole_in(word[1:], most)
    return -number if number else None
