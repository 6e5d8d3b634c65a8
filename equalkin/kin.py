"""Kin: whether an algebra obeys all equations of another one, with a paper either way."""

from equalkin.algebras import check_signs
from equalkin.errors import NotKin, TooMany
from equalkin.free import Free
from equalkin.parts import generators

_MOST_MAKERS = 3


def kin(first, second):
    """Tell whether each equation that holds in the first algebra holds in the second one."""
    return kin_paper(first, second)[0] == "kin"


def kin_paper(first, second):
    """Return a paper that tells whether the second algebra is kin to the first one."""
    check_signs(first, second)
    makers = generators(second)
    if len(makers) > _MOST_MAKERS:
        raise TooMany()
    free = Free(first, len(makers))
    # An equation that holds in the first algebra alone fails at some members, and terms over the makers are these.
    try:
        m = free.lift(second, makers)
    except NotKin as e:
        return "parted", e.left, e.right, tuple([(f"x{number}", name) for number, name in enumerate(makers)])
    return "kin", tuple([(tuple(free.row(name)), m(name)) for name in free.algebra.members()])


def same_equations(first, second):
    """Tell whether each of the two algebras is kin to the other one."""
    # Both are asked in any case, as the second question may raise an error.
    there, back = kin(first, second), kin(second, first)
    return there and back
