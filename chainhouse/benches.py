"""Benches: who votes, who is coming, who learns; and the steps from one bench to the next."""

from chainhouse.errors import NoBench, NotYet
from chainhouse.works import is_rising_names

MOST_SPEAKING = 7
MOST_LEARNERS = 4


def is_bench(thing):
    if not isinstance(thing, tuple) or len(thing) != 3 or not all([is_rising_names(part) for part in thing]):
        return False
    if len(thing[0]) < 1 or len(thing[0]) > MOST_SPEAKING or len(thing[1]) > MOST_SPEAKING:
        return False
    # A learner of a joined bench may be one of its voters: a voter that goes, and learns from then on.
    speaking_then = thing[1] if is_joined(thing) else thing[0]
    return len(thing[2]) <= MOST_LEARNERS and not any([name in speaking_then for name in thing[2]])


def check_bench(thing):
    # The words show nothing of the thing: what is very deep or very great can't be shown.
    if not is_bench(thing):
        raise NoBench("this is no bench")


def speakers(bench):
    return tuple(sorted(set(bench[0] + bench[1])))


def members(bench):
    return tuple(sorted(set(bench[0] + bench[1] + bench[2])))


def is_joined(bench):
    return len(bench[1]) > 0


def is_most(side, names):
    return 2 * len([name for name in side if name in names]) > len(side)


def is_half(bench, names):
    if is_joined(bench) and not is_most(bench[1], names):
        return False
    return is_most(bench[0], names)


def joined(bench, voters, learners):
    if is_joined(bench):
        raise NotYet("a joined bench is not changed before the plain one behind it is there")
    changed = (bench[0], voters, learners)
    check_bench(changed)
    if not is_joined(changed):
        raise NoBench("there are no other voters")
    return changed


def behind(bench):
    if not is_joined(bench):
        raise NotYet("nothing is behind a plain bench before it is changed")
    return (bench[1], (), bench[2])


def is_step(bench, other):
    if is_joined(bench):
        return other == behind(bench)
    return is_joined(other) and other[0] == bench[0]
