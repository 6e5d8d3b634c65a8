"""Terms as texts, such as add(x, back(y))."""

from equalkin.errors import BadText
from equalkin.words import is_word


def write_term(term):
    """Return the text of a term."""
    if isinstance(term, str):
        return term
    inner = ", ".join([write_term(part) for part in term[1:]])
    return f"{term[0]}({inner})"


def read_term(text):
    """Return the term that the text tells."""
    term, place = _read(text, _behind_blanks(text, 0))
    if place < len(text):
        raise BadText(place)
    return term


# The functions below return what they read together with the place behind it and behind the blanks that follow.
# All that they have read when they meet a fault is the beginning of some right text, so the fault's place is told.


def _read(text, start):
    end = _word_end(text, start)
    if end == start:
        raise BadText(start)
    word = text[start:end]
    place = _behind_blanks(text, end)
    if text[place:place + 1] != "(":
        return word, place
    parts, place = _read_parts(text, _behind_blanks(text, place + 1))
    return (word, *parts), place


def _read_parts(text, start):
    if text[start:start + 1] == ")":
        return [], _behind_blanks(text, start + 1)
    first, place = _read(text, start)
    parts = [first]
    while text[place:place + 1] == ",":
        part, place = _read(text, _behind_blanks(text, place + 1))
        parts.append(part)
    if text[place:place + 1] != ")":
        raise BadText(place)
    return parts, _behind_blanks(text, place + 1)


def _word_end(text, start):
    end = start
    while end < len(text) and is_word(text[start:end + 1]):
        end += 1
    return end


def _behind_blanks(text, place):
    while text[place:place + 1] == " ":
        place += 1
    return place
