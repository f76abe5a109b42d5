"""The words of texts, and which of them are names and numbers."""

from splittalk.limits import LARGEST

_NO_NAMES = (
    "rows", "columns", "var", "set", "first", "second",
    "if", "else", "end", "own", "lot", "mod",
)
_LETTERS = "abcdefghijklmnopqrstuvwxyz"
_DIGITS = "0123456789"


def words_of(text):
    """The list of the words of a text, also the empty ones beside needless spaces."""
    if text == "":
        return []
    return text.split(" ")


def is_name(word):
    """Whether a word may be the name of a variable."""
    if not 1 <= len(word) <= 8 or word in _NO_NAMES:
        return False
    return all([letter in _LETTERS for letter in word])


def is_number(word):
    """Whether a word writes a number in the one way in which it is written."""
    if not 1 <= len(word) <= 5:
        return False
    # Python's int takes more than digits, such as signs and newlines.
    if not all([digit in _DIGITS for digit in word]):
        return False
    if word.startswith("0"):
        return word == "0"
    return int(word) <= LARGEST
