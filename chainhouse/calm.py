"""Calm: rounds in which no letter is lost, nor any house falls."""


def rounds_of(town):
    return 9 * (max([pair[1] for pair in town.pairs]) + 1)


def carry_all(town):
    while len(town.waiting()) > 0:
        town.do(("run", len(town.waiting())))


def calm(town, rounds):
    carry_all(town)
    for number in range(rounds):
        for name in town.standing():
            town.do(("turn", name))
            carry_all(town)
