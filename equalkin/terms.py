"""Terms over a signature: an unknown is a word, any other term a tuple (sign, term, .., term)."""

from equalkin.algebras import value_row
from equalkin.errors import BadTerm, NoValue, UnknownMember
from equalkin.words import is_word


def check_term(algebra, term):
    """Raise BadTerm if this is no term over the algebra's signature."""
    if not is_term(algebra.signature, term):
        raise BadTerm()


def is_term(signature, thing):
    """Tell whether thing is a term over the signature, the arities of which may be any numbers."""
    return _is_term({sign: arity for sign, arity in signature}, thing)


def _is_term(arities, thing):
    if isinstance(thing, str):
        return is_word(thing)
    if not isinstance(thing, tuple) or len(thing) == 0:
        return False
    sign = thing[0]
    # A sign that is no string may be unfit to be looked up in a dict.
    if not isinstance(sign, str) or sign not in arities:
        return False
    if len(thing) - 1 != arities[sign]:
        return False
    return all([_is_term(arities, part) for part in thing[1:]])


def unknowns(term):
    """Return the list of a term's unknowns in the order of their first places."""
    found = {}
    _find_unknowns(term, found)
    return list(found)


def _find_unknowns(term, found):
    if isinstance(term, str):
        found[term] = True
        return
    for part in term[1:]:
        _find_unknowns(part, found)


def size(term):
    """Return the number of a term's signs."""
    if isinstance(term, str):
        return 0
    return 1 + sum([size(part) for part in term[1:]])


def depth(term):
    """Return the greatest number of signs in one another."""
    if isinstance(term, str):
        return 0
    return 1 + max([depth(part) for part in term[1:]], default=0)


def replaced(term, images):
    """Return the term in which each unknown that images has is replaced by its image."""
    # An image is taken as it is: its own unknowns are not replaced again.
    if isinstance(term, str):
        return images.get(term, term)
    return (term[0], *[replaced(part, images) for part in term[1:]])


def term_value(algebra, term, values):
    """Return the term's value where values leads its unknowns to members."""
    check_term(algebra, term)
    for name in unknowns(term):
        if name not in values:
            raise NoValue(name)
        if values[name] not in algebra:
            raise UnknownMember(values[name])
    return _worked_out(algebra, term, values)


def _worked_out(algebra, term, values):
    if isinstance(term, str):
        return values[term]
    return algebra.value(term[0], [_worked_out(algebra, part, values) for part in term[1:]])


def term_row(algebra, term, columns, width):
    """Return the list of the term's values where columns leads its unknowns to lists of width members."""
    if isinstance(term, str):
        return list(columns[term])
    rows = [term_row(algebra, part, columns, width) for part in term[1:]]
    return value_row(algebra, term[0], rows, width)
