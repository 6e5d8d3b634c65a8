"""The judge of papers that tell whether an algebra is kin to another one."""

from equalkin.algebras import check_signs, tuples_of, value_row
from equalkin.equations import fails
from equalkin.terms import is_term, term_value, unknowns
from equalkin.words import is_word


def judge_kin(first, second, paper):
    """Return None if the paper is right, and otherwise the word for the first thing that is wrong with it."""
    check_signs(first, second)
    if not isinstance(paper, tuple):
        return "form"
    if len(paper) == 2 and paper[0] == "kin":
        return _judge_table(first, second, paper[1])
    if len(paper) == 4 and paper[0] == "parted":
        return _judge_equation(first, second, paper[1], paper[2], paper[3])
    return "form"


def _judge_table(first, second, table):
    if not _is_table(first, second, table):
        return "form"
    member_of = {row: name for row, name in table}
    results = _results(first, list(member_of))
    if not all([row in member_of for _, _, row in results]):
        return "closed"
    for sign, rows, row in results:
        if second.value(sign, [member_of[argument] for argument in rows]) != member_of[row]:
            return "kept"
    led = list(member_of.values())
    return None if all([name in led for name in second.members()]) else "onto"


def _is_table(first, second, table):
    if not isinstance(table, tuple):
        return False
    if not all([_is_pair(entry) and _is_row(first, entry[0]) and entry[1] in second for entry in table]):
        return False
    rows = [entry[0] for entry in table]
    return len(set(rows)) == len(rows) and len(set([len(row) for row in rows])) <= 1


def _is_pair(thing):
    return isinstance(thing, tuple) and len(thing) == 2


def _is_row(algebra, thing):
    return isinstance(thing, tuple) and all([name in algebra for name in thing])


def _results(algebra, rows):
    """Return tuples (sign, rows, row of the values) for all operations and all rows as arguments."""
    # If there are no rows, no row of values is among them, whatever its length.
    width = len(rows[0]) if rows else 0
    return [
        (sign, arguments, tuple(value_row(algebra, sign, arguments, width)))
        for sign, arity in algebra.signature for arguments in tuples_of(rows, arity)
    ]


def _judge_equation(first, second, left, right, values):
    if not is_term(first.signature, left) or not is_term(first.signature, right) or not _are_values(second, values):
        return "form"
    member_of = {name: member for name, member in values}
    if not all([name in member_of for name in [*unknowns(left), *unknowns(right)]]):
        return "form"
    if fails(first, left, right) is not None:
        return "holds"
    if term_value(second, left, member_of) == term_value(second, right, member_of):
        return "fails"
    return None


def _are_values(algebra, values):
    if not isinstance(values, tuple):
        return False
    if not all([_is_pair(entry) and is_word(entry[0]) and entry[1] in algebra for entry in values]):
        return False
    return len(set([entry[0] for entry in values])) == len(values)
