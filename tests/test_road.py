import itertools
import unittest

from chainhouse.errors import NoLetter
from chainhouse.road import Road
from things import GREAT, SIXTY, Refusing

A, B, C, D = [("gave", name, "z", 1, True) for name in "abcd"]


def road_with(*letters):
    road = Road()
    road.put(letters)
    return road


class Put(unittest.TestCase):
    def test_a_new_road_is_empty(self):
        self.assertEqual(Road().waiting(), ())

    def test_a_tuple_a_list_and_none(self):
        for letters in ((A, B, C), (A,), ()):
            for given in (letters, list(letters)):
                road = Road()
                self.assertIsNone(road.put(given))
                self.assertEqual(road.waiting(), letters)

    def test_several_times_each_behind(self):
        road = Road()
        for letters in ((B,), [], [A, C], (), (D, A)):
            road.put(letters)
        self.assertEqual(road.waiting(), (B, A, C, D, A))

    def test_the_same_letter_twice(self):
        self.assertEqual(road_with(A, A, B, A).waiting(), (A, A, B, A))

    def test_a_list_that_is_changed_later(self):
        letters = [A, B]
        road = Road()
        road.put(letters)
        letters.append(C)
        letters[0] = D
        self.assertEqual(road.waiting(), (A, B))
        road.take(0)
        self.assertEqual(letters, [D, B, C])
        road.put(letters)
        letters.clear()
        self.assertEqual(road.waiting(), (B, D, B, C))

    def test_what_was_told_stays(self):
        road = road_with(A, B)
        told = road.waiting()
        self.assertIs(type(told), tuple)
        road.put((C,))
        road.take(0)
        road.double(0)
        road.lose(0)
        self.assertEqual(told, (A, B))

    def test_telling_changes_nothing(self):
        road = road_with(A, B)
        self.assertEqual(road.waiting(), road.waiting())

    def test_two_roads_are_two(self):
        one, other = Road(), Road()
        one.put((A,))
        self.assertEqual(other.waiting(), ())
        other.put(one.waiting())
        one.lose(0)
        self.assertEqual((one.waiting(), other.waiting()), ((), (A,)))


class Numbers(Refusing):
    def test_taken(self):
        for k, letter, left in ((0, A, (B, C, D)), (1, B, (A, C, D)), (2, C, (A, B, D)), (3, D, (A, B, C))):
            road = road_with(A, B, C, D)
            self.assertEqual(road.take(k), letter)
            self.assertEqual(road.waiting(), left)

    def test_taken_one_by_one(self):
        road = road_with(A, B, C, D)
        self.assertEqual([road.take(0), road.take(2), road.take(1), road.take(0)], [A, D, C, B])
        self.assertEqual(road.waiting(), ())

    def test_lost(self):
        for k, left in ((0, (B, C, D)), (1, (A, C, D)), (3, (A, B, C))):
            road = road_with(A, B, C, D)
            self.assertIsNone(road.lose(k))
            self.assertEqual(road.waiting(), left)

    def test_doubled(self):
        for k, letter in enumerate((A, B, C)):
            road = road_with(A, B, C)
            self.assertIsNone(road.double(k))
            self.assertEqual(road.waiting(), (A, B, C, letter))
        road.double(3)
        self.assertEqual(road.waiting(), (A, B, C, C, C))

    def test_a_doubled_one_is_taken_twice(self):
        road = road_with(A, B)
        road.double(0)
        self.assertEqual([road.take(0), road.take(1)], [A, A])
        self.assertEqual(road.waiting(), (B,))

    def test_only_the_one_of_the_number_goes(self):
        road = road_with(A, B, A, C, A)
        self.assertEqual(road.take(2), A)
        self.assertEqual(road.waiting(), (A, B, C, A))
        road.lose(3)
        self.assertEqual(road.waiting(), (A, B, C))

    def test_none_of_this_number(self):
        for letters in ((), (A,), (A, B, C)):
            many = len(letters)
            for k in (-1, -2, -3, -4, -SIXTY, -GREAT, many, many + 1, many + 100, SIXTY, GREAT):
                road = road_with(*letters)
                for call in (road.take, road.lose, road.double):
                    self.refuses(NoLetter, call, k)
                    self.assertEqual(road.waiting(), letters)

    def test_behind_the_last_one(self):
        road = road_with(A)
        road.take(0)
        for call in (road.take, road.lose, road.double):
            self.refuses(NoLetter, call, 0)
        road.put([B])
        self.assertEqual(road.take(0), B)

    def test_every_short_row_of_deeds_against_a_plain_list(self):
        for deeds in itertools.product(("put", "take", "lose", "double"), (0, 1, 2), repeat=2):
            road, plain = road_with(A, B), [A, B]
            for deed, k in (deeds[:2], deeds[2:]):
                if deed == "put":
                    road.put((C, D)[:k])
                    plain = plain + [C, D][:k]
                elif k >= len(plain):
                    self.refuses(NoLetter, {"take": road.take, "lose": road.lose, "double": road.double}[deed], k)
                elif deed == "double":
                    road.double(k)
                    plain = plain + [plain[k]]
                else:
                    self.assertEqual((road.take if deed == "take" else road.lose)(k), plain[k] if deed == "take" else None)
                    plain = plain[:k] + plain[k + 1:]
                self.assertEqual(road.waiting(), tuple(plain), deeds)
