"""The linkings of an algebra, and the algebras that they make of it."""

from equalkin.algebras import made_algebra, tuples_of
from equalkin.errors import NotLinked, TooMany
from equalkin.linkings import check_linking, linked, one_form
from equalkin.maps import Map

_MOST_MEMBERS = 5


def all_linkings(algebra):
    """Return the list of all linkings in their one form: more blocks first, then by the places of first members."""
    if len(algebra) > _MOST_MEMBERS:
        raise TooMany()
    # Rows of one length stay in the order in which they are made, which is the one of the places.
    rows = sorted(_all_rows(len(algebra)), key=lambda row: -len(set(row)))
    ways = [one_form(algebra, dict(zip(algebra.members(), row))) for row in rows]
    return [blocks for blocks in ways if _is_linking(algebra, blocks)]


def _all_rows(count):
    """Return all ways to part so many members, as rows of the place of the first member of each one's block."""
    rows = [[]]
    for place in range(count):
        rows = [
            [*row, first] for row in rows for first in range(place + 1) if first == place or row[first] == first
        ]
    return rows


def _is_linking(algebra, blocks):
    try:
        check_linking(algebra, blocks)
    except NotLinked:
        return False
    return True


def met(algebra, first, second):
    """Return the linking in which members are in one block if they are in both."""
    check_linking(algebra, first)
    check_linking(algebra, second)
    one, two = _numbers(first), _numbers(second)
    return one_form(algebra, {name: (one[name], two[name]) for name in algebra.members()})


def _numbers(blocks):
    """Return the dict that leads each member to the number of its block."""
    return {name: number for number, block in enumerate(blocks) for name in block}


def joined(algebra, first, second):
    """Return the least linking in which members are in one block if they are in one of the two."""
    check_linking(algebra, first)
    check_linking(algebra, second)
    return linked(algebra, [(block[0], name) for block in [*first, *second] for name in block])


def quotient(algebra, blocks):
    """Return the algebra of the first members of the blocks."""
    check_linking(algebra, blocks)
    first_of = _first_members(algebra, blocks)
    names = [name for name in algebra.members() if first_of[name] == name]
    operations = [
        (sign, arity, [first_of[algebra.value(sign, row)] for row in tuples_of(names, arity)])
        for sign, arity in algebra.signature
    ]
    return made_algebra(names, operations)


def _first_members(algebra, blocks):
    """Return the dict that leads each member to the first one, in the algebra's order, of its block."""
    return {name: block[0] for block in one_form(algebra, _numbers(blocks)) for name in block}


def to_quotient(algebra, blocks):
    """Return the map that leads each member to the first member of its block."""
    target = quotient(algebra, blocks)
    first_of = _first_members(algebra, blocks)
    return Map(algebra, target, [first_of[name] for name in algebra.members()])


def kernel(m):
    """Return the linking, in its one form, in which members with the same image are in one block."""
    return one_form(m.source, dict(zip(m.source.members(), m.images())))


def heart(algebra):
    """Return the linking, of those that are not equality, that is within all others, and None if there is none."""
    others = [blocks for blocks in all_linkings(algebra) if len(blocks) < len(algebra)]
    if len(others) == 0:
        return None
    # One that is within all others has the most blocks, and the most blocks come first.
    least = others[0]
    if not all([met(algebra, least, blocks) == least for blocks in others]):
        return None
    return least
