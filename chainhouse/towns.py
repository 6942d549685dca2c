"""A town: houses and the road between them, driven deed by deed."""

from chainhouse.benches import is_bench, members
from chainhouse.errors import Down, NoDeed, NoHouse, NoTown, Standing
from chainhouse.houses import House
from chainhouse.road import Road
from chainhouse.works import is_ask, is_name, is_read, is_rising_names, is_whole, is_whole_from

MOST_HOUSES = 9
# Each deed's word, with how many parts it has in all.
DEEDS = {
    "turn": 2, "carry": 2, "lose": 2, "double": 2, "run": 2, "fall": 2, "up": 2, "cut": 2,
    "ask": 5, "read": 5, "change": 4,
}
OF_LETTERS = ("carry", "lose", "double", "run")


def is_between(thing, least, most):
    return is_whole_from(thing, least) and thing <= most


def is_pairs(thing):
    if not isinstance(thing, tuple) or not all([isinstance(pair, tuple) and len(pair) == 2 for pair in thing]):
        return False
    if not is_rising_names(tuple([pair[0] for pair in thing])):
        return False
    return 1 <= len(thing) <= MOST_HOUSES and all([is_between(pair[1], 2, 20) for pair in thing])


def check_town(bench, houses, size):
    if not is_bench(bench) or not is_pairs(houses) or not is_between(size, 1, 200):
        raise NoTown("no town is made of these: a part is none, or beyond its bounds")
    names = [pair[0] for pair in houses]
    if not all([name in names for name in members(bench)]):
        raise NoTown("a member of the bench has no house")


def is_town_deed(thing):
    # The word is looked at first: a dict can't be asked for a list.
    if not isinstance(thing, tuple) or len(thing) == 0 or not isinstance(thing[0], str) or thing[0] not in DEEDS:
        return False
    word = thing[0]
    if len(thing) != DEEDS[word]:
        return False
    if word in OF_LETTERS:
        return is_whole(thing[1]) and (word != "run" or thing[1] >= 0)
    if word == "ask" and not is_ask(thing[2], thing[3], thing[4]):
        return False
    if word == "read" and not is_read(thing[2], thing[3], thing[4]):
        return False
    return is_name(thing[1])


class Town:
    def __init__(self, bench, houses, size):
        check_town(bench, houses, size)
        self.first_bench = bench
        self.pairs = houses
        self.size = size
        self.homes = {}
        self.upright = {}
        for name, wait in houses:
            self.homes[name] = House(name, wait, size, bench)
            self.upright[name] = True
        self.road = Road()
        self.given = []
        self.found = []
        self.shown = []

    def do(self, deed):
        if not is_town_deed(deed):
            raise NoDeed("this is no deed of a town")
        if deed[0] == "run":
            self.carry_many(deed[1])
        elif deed[0] == "carry":
            self.carry(deed[1])
        elif deed[0] == "lose":
            self.road.lose(deed[1])
        elif deed[0] == "double":
            self.road.double(deed[1])
        else:
            self.do_at(self.home(deed[1]), deed)

    def carry_many(self, many):
        carried = 0
        while carried < many and len(self.road.letters) > 0:
            self.carry(0)
            carried += 1

    def carry(self, k):
        letter = self.road.take(k)
        if self.upright[letter[2]]:
            house = self.homes[letter[2]]
            # Only houses put letters on the road: they need not be looked at whether they are some.
            self.come_of(house, house.heard(letter))

    def home(self, name):
        if not isinstance(name, str) or name not in self.homes:
            raise NoHouse("no house has this name")
        return self.homes[name]

    def do_at(self, house, deed):
        if deed[0] == "up":
            if self.upright[house.name]:
                raise Standing("this house stands")
            self.upright[house.name] = True
            return
        if not self.upright[house.name]:
            raise Down("this house doesn't stand")
        if deed[0] == "fall":
            # What isn't written is lost at once: so what is told of it while it is down is as of what is written.
            house.fall()
            self.upright[house.name] = False
        elif deed[0] == "cut":
            house.cut()
        else:
            self.come_of(house, self.letters_from(house, deed))

    def letters_from(self, house, deed):
        if deed[0] == "turn":
            return house.turn()
        if deed[0] == "ask":
            return house.ask(deed[2], deed[3], deed[4])
        if deed[0] == "read":
            return house.read(deed[2], deed[3], deed[4])
        for names in deed[2:]:
            # What is no tuple is left for the house to refuse.
            if isinstance(names, tuple):
                for name in names:
                    self.home(name)
        return house.change(deed[2], deed[3])

    def come_of(self, house, letters):
        self.road.put(letters)
        self.given.extend([(house.name,) + answer for answer in house.taken_answers()])
        self.found.extend([(house.name,) + told for told in house.taken_reads()])
        self.shown.extend(house.taken_papers())

    def standing(self):
        return tuple([name for name in self.homes if self.upright[name]])

    def waiting(self):
        return self.road.waiting()

    def written(self, name):
        return self.home(name).writes()

    def part(self, name):
        return self.home(name).part()

    def chair_known(self, name):
        return self.home(name).chair_known()

    def table(self, name):
        return self.home(name).table().told()

    def answers(self):
        return tuple(self.given)

    def reads(self):
        return tuple(self.found)

    def papers(self):
        return tuple(self.shown)

    def journals(self):
        return tuple([(name, house.journal()) for name, house in self.homes.items()])

    def twin(self):
        other = Town(self.first_bench, self.pairs, self.size)
        for name, house in self.homes.items():
            other.homes[name] = house.twin()
        other.upright = dict(self.upright)
        other.road.put(self.waiting())
        other.given = list(self.given)
        other.found = list(self.found)
        other.shown = list(self.shown)
        return other
