"""The words of texts, and which of them are names and numbers."""

from splittalk.limits import LARGEST

_NO_NAMES = (
    "rows", "columns", "var", "set", "first", "second",
    "if", "else", "end", "own", "lot", "mod",
)
# The words with which person 1 and person 2 say something.
PERSONS = ("first", "second")

_LETTERS = "abcdefghijklmnopqrstuvwxyz"
_DIGITS = "0123456789"


def words_of(text):
    """The list of the words of a text, also the empty ones beside needless spaces."""
    if text == "":
        return []
    return text.split(" ")


def is_name(word):
    """Whether a word may be the name of a variable."""
    if not 1 <= len(word) <= 8 or word in _NO_NAMES:
        return False
    return all([letter in _LETTERS for letter in word])


def is_number(word):
    """Whether a word writes a number in the one way in which it is written."""
    if not 1 <= len(word) <= 5:
        return False
    if not are_digits(word):
        return False
    if word.startswith("0"):
        return word == "0"
    return int(word) <= LARGEST


def are_digits(word):
    """Whether a word has no signs but digits."""
    # Python's int takes more, such as a minus and newlines.
    return all([digit in _DIGITS for digit in word])
