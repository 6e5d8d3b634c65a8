"""Products of algebras, and maps: they lead members to members and keep the operations."""

from equalkin.algebras import Algebra, check_known, check_signs, made_algebra, tuples_of
from equalkin.errors import BadImages, MixedAlgebras, NotKept, TooMany, UnknownMember

_MOST_MEMBERS = 64


def product(first, second):
    """Return the algebra of the pairs of a member of the first and one of the second, with the values side by side."""
    check_signs(first, second)
    if len(first) * len(second) > _MOST_MEMBERS:
        raise TooMany()
    pairs = [(one, two) for one in first.members() for two in second.members()]
    operations = [
        (sign, arity, [_pair_value(first, second, sign, row) for row in tuples_of(pairs, arity)])
        for sign, arity in first.signature
    ]
    return made_algebra([_pair_name(one, two) for one, two in pairs], operations)


def _pair_value(first, second, sign, pairs):
    one = first.value(sign, [pair[0] for pair in pairs])
    two = second.value(sign, [pair[1] for pair in pairs])
    return _pair_name(one, two)


def _pair_name(one, two):
    return f"{one}/{two}"


class Map:
    """A map that leads each member of the source to a member of the target and keeps the operations."""

    def __init__(self, source, target, images):
        check_signs(source, target)
        if len(images) != len(source):
            raise BadImages()
        check_known(target, images)
        image_of = dict(zip(source.members(), images))
        _check_kept(source, target, image_of)
        self.source = source
        self.target = target
        self._image_of = image_of

    def __call__(self, name):
        if name not in self.source:
            raise UnknownMember(name)
        return self._image_of[name]

    def images(self):
        """Return the list of the images, in the order of the source's members."""
        return list(self._image_of.values())

    def __rshift__(self, other):
        if self.target != other.source:
            raise MixedAlgebras()
        return Map(self.source, other.target, [other._image_of[name] for name in self.images()])

    def __eq__(self, other):
        if not isinstance(other, Map):
            return False
        if self.source != other.source or self.target != other.target:
            return False
        return self._image_of == other._image_of

    @classmethod
    def same(cls, algebra):
        """Return the map that leads each member to itself."""
        return cls(algebra, algebra, algebra.members())


def _check_kept(source, target, image_of):
    for sign, arity in source.signature:
        for arguments in tuples_of(source.members(), arity):
            image = image_of[source.value(sign, arguments)]
            if target.value(sign, [image_of[name] for name in arguments]) != image:
                raise NotKept(sign, arguments)


def all_maps(source, target):
    """Return the list of all maps, ordered by the places of their images."""
    check_signs(source, target)
    rows = [[]]
    for rules in _rules(source):
        longer = [[*row, image] for row in rows for image in target.members()]
        rows = [row for row in longer if _fits(target, row, rules)]
    return [_made_map(source, target, row) for row in rows]


def renaming(first, second):
    """Return a map that leads just one member to each member, and None if there is none."""
    check_signs(first, second)
    if len(first) != len(second):
        return None
    row = _unlike_images(second, _rules(first), [])
    return None if row is None else _made_map(first, second, row)


def _unlike_images(target, rules, begun):
    """Return a whole row of unlike images that begins as told and fits the rules, and None if there is none."""
    if len(begun) == len(rules):
        return begun
    for image in target.members():
        row = [*begun, image]
        if image not in begun and _fits(target, row, rules[len(begun)]):
            whole = _unlike_images(target, rules, row)
            if whole is not None:
                return whole
    return None


def _rules(source):
    """Return what a map keeps, as tuples (sign, places of the arguments, place of the value).

    They are put by the last place that they name, so that images which break one are left at the first one too many.
    """
    places = {name: place for place, name in enumerate(source.members())}
    rules = [[] for _ in range(len(source))]
    for sign, arity in source.signature:
        for arguments in tuples_of(source.members(), arity):
            value = places[source.value(sign, arguments)]
            row = [places[name] for name in arguments]
            rules[max([*row, value])].append((sign, row, value))
    return rules


def _fits(target, row, rules):
    for sign, places, value in rules:
        if target.value(sign, [row[place] for place in places]) != row[value]:
            return False
    return True


def _made_map(source, target, images):
    # Map looks for faults in what it is given, so it is given what has none.
    point = Algebra(["0"], [])
    made = Map(point, point, ["0"])
    made.source = source
    made.target = target
    made._image_of = dict(zip(source.members(), images))
    return made
