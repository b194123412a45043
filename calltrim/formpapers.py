"""Papers of prime forms."""

from calltrim.forms import is_form
from calltrim.joints import reaches_first
from calltrim.levels import level_paper
from calltrim.partings import parting_moves
from calltrim.primes import Primes, formed
from calltrim.runs import check_row, is_moves, is_row
from calltrim.systems import row_left, system_of_rules, told
from calltrim.tables import worth_by


def form_paper(code, row):
    check_row(code, row)
    (_, rules), table = formed(code, row)
    system = system_of_rules(rules)
    primes = Primes(system, tuple(range(len(rules))))
    return table, dense_moves(primes), apart_moves(primes)


def dense_moves(primes):
    """For each number and each level between its norm and 0 moves that show that it is no joint."""
    known = {}
    dense = []
    for number in primes.numbers:
        levels = range(primes.system.norms[number] - 1, 0, -1)
        dense.append(tuple([level_paper(primes, (number,), level, known) for level in levels]))
    return tuple(dense)


def apart_moves(primes):
    """For each number and each greater one moves that part them."""
    apart = []
    for number in primes.numbers:
        greater = range(number + 1, len(primes.numbers))
        apart.append(tuple([parting_moves(primes.pairs, (number,), (other,)) for other in greater]))
    return tuple(apart)


def form_holds(code, row, form, paper):
    if not is_row(code, row) or not is_form(form) or not isinstance(paper, tuple) or len(paper) != 3:
        return False
    start, rules = form
    table, dense, apart = paper
    if worth_by(code, rules, table, row) != start:
        return False
    system = system_of_rules(rules)
    return shows_dense(system, dense) and shows_apart(system, apart)


def shows_dense(system, value):
    """Whether value shows that each number is prime."""
    if not isinstance(value, tuple) or len(value) != len(system.norms):
        return False
    return all([shows_prime(system, number, value[number]) for number in range(len(value))])


def shows_prime(system, number, value):
    many = system.norms[number] - 1
    if not isinstance(value, tuple) or len(value) != many:
        return False
    return all([shows_no_joint(system, (number,), many - at, value[at]) for at in range(many)])


def shows_no_joint(system, row, level, value):
    """Whether value shows that a row of numbers has no joint at the level."""
    if not isinstance(value, tuple) or len(value) != 3 or not all([is_moves(moves) for moves in value]):
        return False
    one, other, parted = value
    if not reaches_first(system, row, one, level) or not reaches_first(system, row, other, level):
        return False
    return told(system, row_left(system, row, one), parted) != told(system, row_left(system, row, other), parted)


def shows_apart(system, value):
    """Whether value shows that any two numbers are unlike."""
    many = len(system.norms)
    if not isinstance(value, tuple) or len(value) != many:
        return False
    return all([parts_greater(system, number, value[number]) for number in range(many)])


def parts_greater(system, number, value):
    """Whether value has moves that part the number from each greater one."""
    greater = len(system.norms) - number - 1
    if not isinstance(value, tuple) or len(value) != greater or not all([is_moves(moves) for moves in value]):
        return False
    for at in range(greater):
        if told(system, (number,), value[at]) == told(system, (number + 1 + at,), value[at]):
            return False
    return True
