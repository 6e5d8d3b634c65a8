"""The forms of strings that signs, unknowns and the members that are handed in have."""

_LETTERS = "abcdefghijklmnopqrstuvwxyz"
_CHARACTERS = "abcdefghijklmnopqrstuvwxyz0123456789"
_LONGEST = 12


def is_plain(thing):
    """Tell whether thing is a string of 1 to 12 characters from a to z and 0 to 9."""
    if not isinstance(thing, str) or not 1 <= len(thing) <= _LONGEST:
        return False
    return all([character in _CHARACTERS for character in thing])


def is_word(thing):
    """Tell whether thing is such a string that begins with a letter."""
    return is_plain(thing) and thing[0] in _LETTERS
