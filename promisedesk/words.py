"""Words of texts and commands: numbers, and numbers joined by commas."""

MOST_DIGITS = 4
DIGITS = "0123456789"


def is_number(word):
    """Whether the word is a number, with no zeros in front."""
    if not 1 <= len(word) <= MOST_DIGITS or not all([sign in DIGITS for sign in word]):
        return False
    return word == "0" or word[0] != "0"


def numbers_of(word):
    """The numbers, one or more, that the word joins by commas, or None if it does not."""
    parts = word.split(",")
    if not all([is_number(part) for part in parts]):
        return None
    return tuple([int(part) for part in parts])


def joined(numbers):
    """The word that joins the numbers by commas."""
    return ",".join([str(number) for number in numbers])


def numbers_or_dash(word):
    """The numbers that the word joins by commas, none for a -; or None if it has neither form."""
    if word == "-":
        return ()
    return numbers_of(word)


def joined_or_dash(numbers):
    """The word that joins the numbers by commas, a - if there are none."""
    if len(numbers) == 0:
        return "-"
    return joined(numbers)
