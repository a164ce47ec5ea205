"""Moves, one behind the other, that do what pairs of registers do at once."""

from seaplace.errors import BadCode, BadGiven, BadPaper, OutOfPlace
from seaplace.parts import is_number, is_tuple_of
from seaplace.registers import REGISTERS
from seaplace.words import MOST, is_word

MOST_PAIRS = 60


def is_pair(thing):
    """Whether a thing is a pair of registers."""
    return is_tuple_of(thing, 2, 2) and is_number(thing[0], REGISTERS) and is_number(thing[1], REGISTERS)


def fault_of_pairs(thing):
    """A list of the number by which a thing is no pairs, None being one; None of pairs."""
    if not is_tuple_of(thing, 0, MOST_PAIRS):
        return [None]
    seen = {}
    for number, pair in enumerate(thing):
        if not is_pair(pair) or pair[0] in seen:
            return [number]
        seen[pair[0]] = True
    return None


def fault_of_moves(thing):
    """A list of the number by which a thing is no moves, None being one; None of moves."""
    if not is_tuple_of(thing, 0, MOST):
        return [None]
    for number, pair in enumerate(thing):
        if not is_pair(pair):
            return [number]
    return None


def need_pairs(pairs):
    """None, or BadCode of what are no pairs."""
    fault = fault_of_pairs(pairs)
    if fault is not None:
        raise BadCode(fault[0])


def need_moves(moves):
    """None, or BadCode of what are no moves."""
    fault = fault_of_moves(moves)
    if fault is not None:
        raise BadCode(fault[0])


def all_words(words):
    """A list of a word for each register; BadGiven of no tuple of so many, or of the first thing that is none."""
    if not is_tuple_of(words, 0, REGISTERS):
        raise BadGiven(None)
    for number, word in enumerate(words):
        if not is_word(word):
            raise BadGiven(number)
    return list(words) + [0] * (REGISTERS - len(words))


def need_spare(pairs, spare):
    """The register told, or the least one in no pair where it is None; OutOfPlace of none, or of one in a pair."""
    free = [True] * REGISTERS
    for one, other in pairs:
        free[one] = False
        free[other] = False
    if spare is None and True in free:
        return free.index(True)
    if not is_number(spare, REGISTERS) or not free[spare]:
        raise OutOfPlace("a spare register is one that is in no pair")
    return spare


def moving(pairs):
    """The pairs, a list, that aren't idle."""
    return [(one, other) for one, other in pairs if one != other]


def rings_in(pairs):
    """The lone rings, a list, rising, each from its least register on."""
    takers = {}
    for one, other in moving(pairs):
        takers[other] = takers.get(other, ()) + (one,)
    found = []
    for start in sorted(takers):
        ring = [start]
        here = takers[start]
        # As no register gets two words, a way on comes back nowhere but to where it began.
        while len(here) == 1 and here[0] != start:
            ring.append(here[0])
            here = takers.get(here[0], ())
        if len(here) == 1 and min(ring) == start:
            found.append(tuple(ring))
    return found


def moves_for(pairs, spare):
    """The fewest moves, a list, that do pairs, with this spare register."""
    wanted = dict(moving(pairs))
    # Where each word that is wanted stands now.
    place = {other: other for other in wanted.values()}
    ready = [one for one in wanted if one not in place]
    found = []
    done = {}
    for start in wanted:
        if not ready and start not in done:
            found.append((spare, start))
            place[start] = spare
            ready = [start]
        while ready:
            one = ready.pop()
            other = wanted[one]
            found.append((one, place[other]))
            done[one] = True
            # Its word stands in another register, too, from here on: so it may get its own.
            if place[other] == other and other in wanted:
                ready.append(other)
            place[other] = one
    return found


def words_at_once(pairs, words):
    """What the registers have behind pairs that are done at once, a list."""
    found = list(words)
    for one, other in pairs:
        found[one] = words[other]
    return found


def words_one_by_one(moves, words):
    """What the registers have behind moves, a list."""
    found = list(words)
    for one, other in moves:
        found[one] = found[other]
    return found


def differing(pairs, moves, spares):
    """The least register, none of the spare ones, whose word may be another one behind the moves, or None."""
    each = list(range(REGISTERS))
    due = words_at_once(pairs, each)
    told = words_one_by_one(moves, each)
    for number in each:
        if told[number] != due[number] and number not in spares:
            return number
    return None


def are_pairs(thing):
    """Whether a thing is a tuple of so many pairs of registers, of which none gets two words."""
    return fault_of_pairs(thing) is None


def are_moves(thing):
    """Whether a thing is a tuple of so many pairs of registers."""
    return fault_of_moves(thing) is None


def lone_rings(pairs):
    """Rings of registers, each followed by the one that gets its word, of which no other one gets a word."""
    need_pairs(pairs)
    return tuple(rings_in(pairs))


def fewest_moves(pairs):
    """How many moves do the pairs at least."""
    need_pairs(pairs)
    return len(moving(pairs)) + len(rings_in(pairs))


def single_moves(pairs, *, spare=None):
    """The fewest moves that do the pairs, a tuple."""
    need_pairs(pairs)
    return tuple(moves_for(pairs, need_spare(pairs, spare)))


def at_once(pairs, words):
    """What the registers have behind pairs that are done at once, a tuple."""
    need_pairs(pairs)
    return tuple(words_at_once(pairs, all_words(words)))


def one_by_one(moves, words):
    """What the registers have behind moves, a tuple."""
    need_moves(moves)
    return tuple(words_one_by_one(moves, all_words(words)))


def check_moves(pairs, moves, *, spare=None):
    """How many moves do the pairs; BadPaper of the least register whose word may be another one."""
    need_pairs(pairs)
    need_moves(moves)
    number = differing(pairs, moves, (need_spare(pairs, spare),))
    if number is not None:
        raise BadPaper(number)
    return len(moves)
