"""Free algebras: terms over some unknowns, where those that have the same values everywhere are one member."""

from equalkin.algebras import check_known, check_signs, made_algebra, many_tuples, tuples_of, value_row
from equalkin.errors import BadImages, NoMembers, NotKin, TooMany, UnknownMember
from equalkin.maps import Map
from equalkin.parts import terms_to
from equalkin.terms import term_value

_MOST_LISTS = 64
_MOST_ROWS = 48
_MOST_PARTS = 2000
_MOST_DEPTH = 40


class Free:
    """The free algebra of an algebra over so many unknowns."""

    def __init__(self, algebra, count):
        if many_tuples(len(algebra), count) > _MOST_LISTS:
            raise TooMany()
        lists = tuples_of(algebra.members(), count)
        columns = [tuple([row[place] for row in lists]) for place in range(count)]
        names = {row: f"t{number}" for number, row in enumerate(least_rows(algebra, columns, len(lists)))}
        # Unknowns and operations of arity 0 are all that a term can begin with.
        if len(names) == 0:
            raise NoMembers()
        self.base = algebra
        self.count = count
        self.algebra = _algebra_of_rows(algebra, names, len(lists))
        self._rows = {names[row]: row for row in names}
        self._unknowns = [names[row] for row in columns]
        self._terms = terms_to(self.algebra, self._unknowns)

    def unknowns(self):
        """Return the list of the members of the unknowns, in order."""
        return list(self._unknowns)

    def row(self, name):
        """Return the list of the values of the terms that are this member."""
        if name not in self.algebra:
            raise UnknownMember(name)
        return list(self._rows[name])

    def term(self, name):
        """Return a term of least depth that is this member."""
        if name not in self.algebra:
            raise UnknownMember(name)
        return self._terms[name][2]

    def by_depth(self):
        """Return the list of the members, those with terms of less depth first, then those with fewer parts."""
        return sorted(self.algebra.members(), key=lambda name: self._terms[name][:2])

    def member(self, term):
        """Return the member that a term over the unknowns is."""
        return term_value(self.algebra, term, {f"x{number}": name for number, name in enumerate(self._unknowns)})

    def lift(self, target, images):
        """Return the map to target that leads the members of the unknowns to these images."""
        check_signs(self.base, target)
        if len(images) != self.count:
            raise BadImages()
        check_known(target, images)
        image_of = _images_by_terms(self.algebra, self._unknowns, target, images)
        return Map(self.algebra, target, [image_of[name] for name in self.algebra.members()])


def least_rows(algebra, rows, width):
    """Return the rows, first these ones, of the least part of a power that has these tuples of width members."""
    found = {}
    fresh = list(rows)
    fresh.extend([tuple(value_row(algebra, sign, [], width)) for sign, arity in algebra.signature if arity == 0])
    while fresh:
        further = []
        for row in fresh:
            if row not in found:
                found[row] = True
                if len(found) > _MOST_ROWS:
                    raise TooMany()
                further.extend(_rows_with(algebra, row, list(found), width))
        fresh = further
    return list(found)


def _rows_with(algebra, row, others, width):
    """Return the rows of values for arguments of which one is row and each further one is among others."""
    found = []
    for sign, arity in algebra.signature:
        if arity == 1:
            found.append(value_row(algebra, sign, [row], width))
        if arity == 2:
            found.extend([value_row(algebra, sign, [row, other], width) for other in others])
            found.extend([value_row(algebra, sign, [other, row], width) for other in others])
    return [tuple(values) for values in found]


def _algebra_of_rows(algebra, names, width):
    """Return the algebra of the rows that names leads to their names, with the values place by place."""
    operations = [
        (sign, arity, [names[tuple(value_row(algebra, sign, rows, width))] for rows in tuples_of(list(names), arity)])
        for sign, arity in algebra.signature
    ]
    return made_algebra(list(names.values()), operations)


# The functions below lead members as terms over their unknowns are led. A lead is a tuple (number of parts, term,
# image) of a member; a clash is a tuple (number of parts of the greater one, left, right) of two terms that are one
# member and are led to unlike images.


def _images_by_terms(algebra, starts, target, images):
    """Return the dict that leads each member to its image where the unknowns, which are starts, have these images.

    With each sign more in one another each member keeps the lead of fewest parts. If two terms that are not too
    great clash, such leads of terms that are no greater clash, too, so NotKin tells great terms only where all are.
    """
    leads = _unknown_leads(starts, images)
    known = None
    level = 0
    while True:
        deeper, clash = _leads_one_deeper(algebra, target, leads)
        level += 1
        known = _lesser(known, clash)
        settled = _parts_of(deeper) == _parts_of(leads)
        if known is not None and (known[0] <= _MOST_PARTS or level >= _MOST_DEPTH or settled):
            raise NotKin(known[1], known[2])
        if settled:
            return {name: leads[name][2] for name in leads}
        leads = deeper


def _unknown_leads(starts, images):
    leads = {}
    for number, name in enumerate(starts):
        unknown = f"x{number}"
        if name not in leads:
            leads[name] = (1, unknown, images[number])
        if leads[name][2] != images[number]:
            raise NotKin(leads[name][1], unknown)
    return leads


def _leads_one_deeper(algebra, target, leads):
    """Return the leads of fewest parts that are at most one sign deeper, and the least clash on the way or None."""
    deeper = dict(leads)
    known = None
    for sign, arity in algebra.signature:
        for arguments in tuples_of(list(leads), arity):
            lead = _lead_by(target, sign, [leads[argument] for argument in arguments])
            name = algebra.value(sign, arguments)
            held = deeper.get(name, lead)
            if held[2] != lead[2]:
                known = _lesser(known, (max(held[0], lead[0]), held[1], lead[1]))
            if name not in deeper or lead[0] < held[0]:
                deeper[name] = lead
    return deeper, known


def _lead_by(target, sign, leads):
    many = 1 + sum([lead[0] for lead in leads])
    term = (sign, *[lead[1] for lead in leads])
    return many, term, target.value(sign, [lead[2] for lead in leads])


def _lesser(known, clash):
    """Return the clash of fewer parts, where each of the two may be None."""
    if known is None or clash is None:
        return clash if known is None else known
    return clash if clash[0] < known[0] else known


def _parts_of(leads):
    return {name: leads[name][0] for name in leads}
