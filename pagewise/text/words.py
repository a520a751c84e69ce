"""Words of texts: integers, and rows of them."""

MAX_DIGITS = 40
DIGITS = "0123456789"


def integer_in(word):
    """Return the integer that is written as this word, or None."""
    digits = word[1:] if word.startswith("-") else word
    # Other characters count as digits, too, where Python reads an integer.
    if not 1 <= len(digits) <= MAX_DIGITS or not all([digit in DIGITS for digit in digits]):
        return None
    number = int(word)
    return number if str(number) == word else None


def integers_in(words):
    """Return the tuple of the integers that are written as these words, or None."""
    numbers = tuple([integer_in(word) for word in words])
    return None if None in numbers else numbers


def row_text(row):
    """Return the text of a row."""
    return " ".join([str(number) for number in row]) if row else "()"


def row_in(text):
    """Return the tuple of integers with this text, or None."""
    return () if text == "()" else integers_in(text.split(" "))
