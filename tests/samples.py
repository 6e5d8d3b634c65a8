"""Algebras, ways to work things out and a kind of test that several test files share."""

import unittest

from equalkin.algebras import ChainAlgebra, PickAlgebra, SetAlgebra, TurnAlgebra, made_algebra

SIGNATURES = (
    (("f", 2),),
    (("g", 1),),
    (("c", 0), ("f", 2)),
    (("g", 1), ("h", 1), ("c", 0)),
    (("f", 2), ("g", 1), ("c", 0), ("d", 0)),
    (),
)


def scattered(seed, count, signature):
    """Return an algebra whose values are thrown about, always in the same way for the same seed."""
    names = [f"m{(number * 7 + seed) % 11}" for number in range(count)]
    state = seed * 2654435761 + count
    operations = []
    for sign, arity in signature:
        values = []
        for _ in range(count ** arity):
            state = (state * 6364136223846793005 + 1442695040888963407) % 2 ** 64
            values.append(names[(state >> 33) % count])
        operations.append((sign, arity, values))
    return made_algebra(names, operations)


def some_algebras():
    """Return algebras of 1 to 5 members: thrown about ones of each signature, and the four families."""
    found = [
        scattered(seed, count, signature)
        for signature in SIGNATURES for count in range(1, 6) for seed in range(3)
    ]
    found += [TurnAlgebra(count) for count in (1, 2, 4, 6)] + [ChainAlgebra(count) for count in (1, 3, 5)]
    return found + [PickAlgebra(3), SetAlgebra(1), SetAlgebra(2)]


def renamed(algebra, images, order):
    """Return the algebra with its members named anew by the dict images and put in this order of old names."""
    back = {image: name for name, image in images.items()}
    names = [images[name] for name in order]
    operations = []
    for sign, arity in algebra.signature:
        rows = tuples(names, arity)
        values = [images[algebra.value(sign, [back[name] for name in row])] for row in rows]
        operations.append((sign, arity, values))
    return made_algebra(names, operations)


def tuples(things, count):
    """Return all tuples of so many things, in order."""
    if count == 0:
        return [()]
    return [(thing, *row) for thing in things for row in tuples(things, count - 1)]


def data_of(algebra):
    """Return all that an algebra tells, to see that a call left it as it was."""
    names = algebra.members()
    return names, algebra.signature, {
        sign: [algebra.value(sign, row) for row in tuples(names, arity)] for sign, arity in algebra.signature
    }


def value_of(algebra, term, values):
    """Return the value of a term, worked out without the functions of the program."""
    if isinstance(term, str):
        return values[term]
    return algebra.value(term[0], [value_of(algebra, inner, values) for inner in term[1:]])


def depth_of(term):
    return 0 if isinstance(term, str) else 1 + max([depth_of(inner) for inner in term[1:]], default=0)


def many_parts(term, known=None):
    """Return the number of a term's parts; known keeps those of terms that stand in it more than once."""
    known = {} if known is None else known
    if isinstance(term, str):
        return 1
    if id(term) not in known:
        known[id(term)] = 1 + sum(many_parts(inner, known) for inner in term[1:])
    return known[id(term)]


def depths_of_rows(algebra, rows, width):
    """Return the least depth of a term for each row that some term makes of these ones, place by place."""
    depths = {row: 0 for row in rows}
    level = 0
    while True:
        level += 1
        made = {
            tuple(algebra.value(sign, [row[place] for row in given]) for place in range(width))
            for sign, arity in algebra.signature for given in tuples(list(depths), arity)
        }
        if made <= set(depths):
            return depths
        depths.update({row: level for row in made if row not in depths})


def projections(algebra, count):
    """Return the rows of so many unknowns for all lists of members, and the number of the lists."""
    lists = tuples(algebra.members(), count)
    return [tuple(row[place] for row in lists) for place in range(count)], len(lists)


class Failing(unittest.TestCase):
    def raises(self, error, told, call, *given):
        with self.assertRaises(error) as caught:
            call(*given)
        self.assertIs(type(caught.exception), error)
        for name, value in told.items():
            self.assertEqual(getattr(caught.exception, name), value)
        return caught.exception
