"""Lines of texts: a word, and behind it numbers in plain figures, with one blank between each two."""

from lazyrails.errors import NoText

FIGURES = "0123456789"


def is_plain(word):
    """Whether the word is a number in plain figures: no sign, no leading nought."""
    for sign in word:
        if sign not in FIGURES:
            return False
    return word == "0" or (word != "" and word[0] != "0")


def read_number(word):
    """The number that a word tells."""
    # Asked first, since Python would take more than plain figures for a number.
    if not is_plain(word):
        raise NoText(f"not a number in plain figures: {word!r}")
    return int(word)


def read_line(line):
    """A tuple of the first word of a line and the list of the numbers behind it."""
    words = line.split(" ")
    return (words[0], [read_number(word) for word in words[1:]])


def write_line(word, numbers):
    """The line of a word and the numbers behind it."""
    return " ".join([word] + [str(number) for number in numbers])
