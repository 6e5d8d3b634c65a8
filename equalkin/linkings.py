"""Linkings: blocks of members such that values are in one block whenever their arguments are."""

from equalkin.algebras import check_known, tuples_of
from equalkin.errors import BadBlocks, NotLinked


def check_linking(algebra, blocks):
    """Raise the error of the first fault if the blocks make no linking."""
    names = [name for block in blocks for name in block]
    check_known(algebra, names)
    if not all([len(block) > 0 for block in blocks]) or sorted(names) != sorted(algebra.members()):
        raise BadBlocks()
    labels = {name: number for number, block in enumerate(blocks) for name in block}
    block_of = {name: block for block in one_form(algebra, labels) for name in block}
    for sign, arity in algebra.signature:
        rows = tuples_of(algebra.members(), arity)
        _check_operation(sign, {row: labels[algebra.value(sign, row)] for row in rows}, block_of)


def _check_operation(sign, values, block_of):
    """Raise NotLinked for the first fault, where values leads all arguments to the label of the value's block."""
    for arguments in values:
        for place, name in enumerate(arguments):
            others = (*arguments[:place], *arguments[place + 1:])
            for other in block_of[name]:
                if values[_placed(other, place, others)] != values[arguments]:
                    raise NotLinked(sign, arguments, place, other)


def _placed(name, place, others):
    """Return the arguments with name in this place and the others, in order, in the other ones."""
    return (*others[:place], name, *others[place:])


def one_form(algebra, labels):
    """Return the blocks of the members with equal labels, in their one form."""
    blocks = {}
    for name in algebra.members():
        blocks.setdefault(labels[name], []).append(name)
    return list(blocks.values())


def linked(algebra, pairs):
    """Return the least linking, in its one form, with the members of each pair in one block."""
    _check_pairs(algebra, pairs)
    labels, _ = _join_all(algebra, pairs)
    return one_form(algebra, labels)


def _check_pairs(algebra, pairs):
    for pair in pairs:
        check_known(algebra, pair)


def _join_all(algebra, pairs):
    """Return labels, equal ones for members that the pairs join, and the links that joined them.

    A link is a tuple (one, two, number, moves): the moves lead the pair with this number to one and two. Each link
    joins two blocks, and what follows from a pair within a block follows from the links that made the block.
    """
    labels = {name: name for name in algebra.members()}
    moves = _all_moves(algebra)
    links = []
    layer = [(pair[0], pair[1], number, ()) for number, pair in enumerate(pairs)]
    while layer:
        further = []
        for link in layer:
            if labels[link[0]] != labels[link[1]]:
                _give_one_label(labels, link[0], link[1])
                links.append(link)
                further.extend([_moved_link(algebra, link, move) for move in moves])
        layer = further
    return labels, links


def _give_one_label(labels, one, two):
    old, new = labels[one], labels[two]
    for name in list(labels):
        if labels[name] == old:
            labels[name] = new


def _all_moves(algebra):
    return [
        (sign, place, others)
        for sign, arity in algebra.signature for place in range(arity)
        for others in tuples_of(algebra.members(), arity - 1)
    ]


def _moved_link(algebra, link, move):
    one, two, number, moves = link
    return _moved(algebra, one, [move]), _moved(algebra, two, [move]), number, (*moves, move)


def _moved(algebra, name, moves):
    """Return what the member becomes behind all moves, one after another."""
    for sign, place, others in moves:
        name = algebra.value(sign, _placed(name, place, others))
    return name


def chain(algebra, pairs, first, second):
    """Return a list of steps from the first to the second member, and None if no pairs join them."""
    _check_ends(algebra, pairs, first, second)
    steps = _steps_by_start(_join_all(algebra, pairs)[1])
    chains = {first: []}
    waiting = [first]
    while waiting:
        start = waiting.pop()
        for step, end in steps.get(start, []):
            if end not in chains:
                chains[end] = [*chains[start], step]
                waiting.append(end)
    return chains.get(second)


def _check_ends(algebra, pairs, first, second):
    _check_pairs(algebra, pairs)
    check_known(algebra, [first, second])


def _steps_by_start(links):
    """Return, by the member with which they begin, the lists of tuples of a step and the member that ends it."""
    steps = {}
    for one, two, number, moves in links:
        steps.setdefault(one, []).append(((number, False, moves), two))
        steps.setdefault(two, []).append(((number, True, moves), one))
    return steps


def judge_chain(algebra, pairs, first, second, steps):
    """Return None if the steps lead from first to second, and otherwise the number of the first fault."""
    _check_ends(algebra, pairs, first, second)
    reached = first
    for number, step in enumerate(steps):
        if not _is_step(algebra, len(pairs), step):
            return number
        start, end = _step_ends(algebra, pairs, step)
        if start != reached:
            return number
        reached = end
    return None if reached == second else len(steps)


def _step_ends(algebra, pairs, step):
    number, turned, moves = step
    one, two = pairs[number]
    if turned:
        one, two = two, one
    return _moved(algebra, one, moves), _moved(algebra, two, moves)


def _is_step(algebra, many, thing):
    if not isinstance(thing, tuple) or len(thing) != 3:
        return False
    number, turned, moves = thing
    if not _is_number_below(many, number) or not isinstance(turned, bool) or not isinstance(moves, tuple):
        return False
    arities = {sign: arity for sign, arity in algebra.signature}
    return all([_is_move(algebra, arities, move) for move in moves])


def _is_move(algebra, arities, thing):
    if not isinstance(thing, tuple) or len(thing) != 3:
        return False
    sign, place, others = thing
    # A sign that is no string may be unfit to be looked up in a dict.
    if not isinstance(sign, str) or sign not in arities or not _is_number_below(arities[sign], place):
        return False
    if not isinstance(others, tuple) or len(others) != arities[sign] - 1:
        return False
    return all([name in algebra for name in others])


def _is_number_below(many, thing):
    # True and False are no numbers, though Python takes them for 1 and 0.
    return isinstance(thing, int) and not isinstance(thing, bool) and 0 <= thing < many
