"""Moves that show that a level of a number is no joint.

Of the pairs (number, level) that are struck out of Primes each has another one as its reason, or is struck for what
one of its answers leaves at once.
"""

from calltrim.partings import parting_moves
from calltrim.systems import least_moves, level_of, row_left


def moves_to_level(system, row, level):
    """The shortest moves that first reach the level from a row of numbers."""
    return least_moves(system, row)[:level_of(system, row) - level]


def own_moves(primes, pair):
    """Moves by an answer that leaves something else at the level than shortest moves do."""
    number, level = pair
    rows = primes.system.rows[number]
    answer = 0
    while primes.pairs.rows_alike(primes.cut_row(rows[answer], level)[0], primes.left[number][level]):
        answer += 1
    return (answer,) + moves_to_level(primes.system, rows[answer], level)


def moves_by_reason(primes, pair, reason, moves):
    """Moves for a pair from those for its reason: an answer behind which the level is cut at this reason."""
    number, level = pair
    rows = primes.system.rows[number]
    answer = 0
    while primes.cut_row(rows[answer], level)[1] != reason:
        answer += 1
    # here the number of the reason stands first
    ahead = level - reason[1] + primes.system.norms[reason[0]]
    return (answer,) + moves_to_level(primes.system, rows[answer], ahead) + moves


def add_moves(primes, pair, known):
    """Adds to known, for a pair and its reasons, moves that leave something else there than shortest moves do."""
    chain = []
    while pair is not None and pair not in known:
        chain.append(pair)
        pair = primes.reasons[pair]
    for struck in chain[::-1]:
        reason = primes.reasons[struck]
        if reason is None:
            known[struck] = own_moves(primes, struck)
        else:
            known[struck] = moves_by_reason(primes, struck, reason, known[reason])


def level_paper(primes, row, level, known):
    """For a level at which a row of numbers has no joint two rows of moves that first reach it, and what parts them.

    The third row of moves parts what the first two leave; known keeps what is found, by pairs (number, level).
    """
    _, (number, inner) = primes.cut_row(row, level)
    add_moves(primes, (number, inner), known)
    one = moves_to_level(primes.system, row, level)
    other = moves_to_level(primes.system, row, level - inner + primes.system.norms[number]) + known[(number, inner)]
    left, right = row_left(primes.system, row, one), row_left(primes.system, row, other)
    return one, other, parting_moves(primes.pairs, left, right)
