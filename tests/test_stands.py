import itertools
import unittest

from chainhouse.errors import NoText
from chainhouse.rows import Row
from chainhouse.stands import first_stand, pieces, read_stand, shown_stand
from chainhouse.tables import Table
from things import BENCHES, SIXTY, Refusing

HUNDRED = 10 ** 100 - 1
STAND = (
    12, 3, (("a", "b"), ("b", "c"), ("d",)), (("apples", 5), ("k", -2), ("l", 0)), (("ann", 7, None), ("bob", 2, -4)),
)
TEXT = "stand 12 3\nbench a b / b c / d\nheld apples 5\nheld k -2\nheld l 0\nasked ann 7 -\nasked bob 2 -4"

SHOWN = (
    (STAND, TEXT),
    ((0, 0, (("a", "b"), (), ()), (), ()), "stand 0 0\nbench a b / /"),
    ((0, 0, (("a",), (), ("b", "c")), (), ()), "stand 0 0\nbench a / / b c"),
    ((0, 0, (("a",), ("b", "c"), ()), (), ()), "stand 0 0\nbench a / b c /"),
    ((1, 1, (("a",), (), ()), (), ()), "stand 1 1\nbench a / /"),
    ((1, 9, (("a",), (), ()), (("k", -1),), ()), "stand 1 9\nbench a / /\nheld k -1"),
    ((9, 1, (("a",), (), ()), (), (("ann", 1, 0),)), "stand 9 1\nbench a / /\nasked ann 1 0"),
    ((10, 100, (("a",), (), ()), (("held", 10),), (("asked", 10, None),)),
     "stand 10 100\nbench a / /\nheld held 10\nasked asked 10 -"),
    ((3, 2, (("bench", "stand"), (), ()), (), ()), "stand 3 2\nbench bench stand / /"),
    ((HUNDRED, HUNDRED, (("a",), (), ()), (("k", HUNDRED), ("l", -HUNDRED)), (("ann", HUNDRED, -HUNDRED),)),
     f"stand {HUNDRED} {HUNDRED}\nbench a / /\nheld k {HUNDRED}\nheld l -{HUNDRED}\nasked ann {HUNDRED} -{HUNDRED}"),
    ((1, 1, (("a",), (), ()), (("a", 1), ("aa", 1), ("ab", 1), ("b", 1)), (("a", 1, 1), ("aa", 1, 1), ("b", 1, 1))),
     "stand 1 1\nbench a / /\nheld a 1\nheld aa 1\nheld ab 1\nheld b 1\nasked a 1 1\nasked aa 1 1\nasked b 1 1"),
)

NO_NUMBERS = (
    "", "-", "+", "--1", "-0", "+0", "+1", "00", "01", "-01", "007", "1_0", "1.0", "1e3", "0x1", "x", "one", "a1", "1a",
    "1-", "\t1", "1\t", "\u00b2", "\u0661", "\uff11", "None", "/", str(HUNDRED + 1), "-" + str(HUNDRED + 1), "9" * 5000,
    "0" * 100, "-" + "0" * 99, "1\r",
)

NO_TEXTS = (
    "", "\n", " ", "\n\n", "stand", "stand 0 0", "stand 0 0\n", "bench a / /", "held k 1", "x", "/", "-",
    "bench a / /\nstand 0 0", "stand 0 0\nstand 0 0\nbench a / /", "stand 0 0\nbench a / /\nbench a / /",
    "stand 1 1\nheld k 1\nbench a / /", "stand 1 1\nasked k 1 1\nbench a / /", "stand 1 1\nheld k 1", "bench a / /\nheld k 1",
    "stand 1 1\nbench a / /\nstand 1 1", "stand 1 1\nbench a / /\nbench b / /", "\nstand 0 0\nbench a / /",
    "stand 0 0\n\nbench a / /", "stand 1 1\nbench a / /\n\nheld k 1", "stand 1 1\nbench a / /\nheld k 1\n\nasked ann 1 1",
    # The words of a row: too few, too many, other ones, other signs between.
    "stand 0\nbench a / /", "stand 0 0 0\nbench a / /", "Stand 0 0\nbench a / /", "stands 0 0\nbench a / /",
    "0 0\nbench a / /", "stand,0,0\nbench a / /", "stand\t0\t0\nbench a / /", "stand 0 0\nBench a / /",
    "stand 0 0\na / /", "stand 0 0\nbench", "stand 0 0\nbench a", "stand 0 0\nbench a /", "stand 0 0\nbench a / / /",
    "stand 0 0\nbench a / / b /", "stand 0 0\nbench / a / b / c", "stand 0 0\nbench a//", "stand 0 0\nbench a / b/",
    "stand 0 0\nbench a /b /", "stand 0 0\nbench a //", "stand 0 0\nbench a\t/ /", "stand 0 0\rbench a / /",
    "stand 0 0\r\nbench a / /", "stand 0 0\x0bbench a / /", "stand 0 0\u2028bench a / /",
    "stand 1 1\nbench a / /\nheld", "stand 1 1\nbench a / /\nheld k", "stand 1 1\nbench a / /\nheld k 1 1",
    "stand 1 1\nbench a / /\nHeld k 1", "stand 1 1\nbench a / /\nk 1", "stand 1 1\nbench a / /\nholds k 1",
    "stand 1 1\nbench a / /\nasked", "stand 1 1\nbench a / /\nasked ann", "stand 1 1\nbench a / /\nasked ann 1",
    "stand 1 1\nbench a / /\nasked ann 1 1 1", "stand 1 1\nbench a / /\nasked ann 1 - -",
    "stand 1 1\nbench a / /\nAsked ann 1 1", "stand 1 1\nbench a / /\nann 1 1", "stand 1 1\nbench a / /\nheld k -",
    "stand 1 1\nbench a / /\nasked ann - 1", "stand 1 1\nbench a / /\nasked ann - -", "stand - 1\nbench a / /",
    # What is read is no stand.
    "stand 0 1\nbench a / /", "stand 0 7\nbench a / /", "stand 1 0\nbench a / /", "stand 9 0\nbench a / /",
    "stand -1 1\nbench a / /", "stand 1 -1\nbench a / /", "stand -1 -1\nbench a / /", "stand 0 -1\nbench a / /",
    "stand -1 0\nbench a / /", "stand 0 0\nbench a / /\nheld k 1", "stand 0 0\nbench a / /\nasked ann 1 -",
    "stand 0 0\nbench a / /\nheld k 1\nasked ann 1 1", "stand 0 1\nbench a / /\nheld k 1\nasked ann 1 1",
    "stand 1 1\nbench a / /\nasked ann 0 1", "stand 1 1\nbench a / /\nasked ann -1 1",
    "stand 1 1\nbench a / /\nasked ann 1 1\nasked bob 0 -",
    # Rows in another order, twice, keys and askers that don't rise or are no names.
    "stand 1 1\nbench a / /\nasked ann 1 1\nheld k 1", "stand 1 1\nbench a / /\nheld k 1\nasked ann 1 1\nheld l 1",
    "stand 1 1\nbench a / /\nheld l 1\nheld k 1", "stand 1 1\nbench a / /\nheld k 1\nheld k 1",
    "stand 1 1\nbench a / /\nheld k 1\nheld k 2", "stand 1 1\nbench a / /\nheld a 1\nheld c 2\nheld b 1",
    "stand 1 1\nbench a / /\nheld aa 1\nheld a 1", "stand 1 1\nbench a / /\nasked bob 1 1\nasked ann 1 1",
    "stand 1 1\nbench a / /\nasked ann 1 1\nasked ann 1 1", "stand 1 1\nbench a / /\nasked ann 1 1\nasked ann 2 1",
    "stand 1 1\nbench a / /\nheld K 1", "stand 1 1\nbench a / /\nheld abcdefghi 1", "stand 1 1\nbench a / /\nheld k1 1",
    "stand 1 1\nbench a / /\nheld / 1", "stand 1 1\nbench a / /\nasked Ann 1 1", "stand 1 1\nbench a / /\nasked - 1 1",
    "stand 1 1\nbench a / /\nasked abcdefghi 1 1",
    # What is no bench.
    "stand 0 0\nbench / /", "stand 0 0\nbench / a /", "stand 0 0\nbench / / a", "stand 0 0\nbench b a / /",
    "stand 0 0\nbench a a / /", "stand 0 0\nbench a / c b /", "stand 0 0\nbench a / / c b", "stand 0 0\nbench A / /",
    "stand 0 0\nbench a1 / /", "stand 0 0\nbench abcdefghi / /", "stand 0 0\nbench a b c d e f g h / /",
    "stand 0 0\nbench a / a b c d e f g h /", "stand 0 0\nbench z / / a b c d e", "stand 0 0\nbench a / / a",
    "stand 0 0\nbench a / b / b", "stand 0 0\nbench a - / /", "stand 1 1\nbench a / b / b\nheld k 1",
    "stand 1 1\nbench / /\nheld k 1",
)


class Shown(unittest.TestCase):
    def test_the_first_stand(self):
        for bench in BENCHES:
            self.assertEqual(first_stand(bench), (0, 0, bench, (), ()))

    def test_written_as_told(self):
        for stand, text in SHOWN:
            with self.subTest(text[:60]):
                self.assertEqual(shown_stand(stand), text)

    def test_read_to_just_that_stand(self):
        for stand, text in SHOWN:
            with self.subTest(text[:60]):
                self.assertEqual(read_stand(text), stand)

    def test_every_bench(self):
        for bench in BENCHES:
            for stand in (first_stand(bench), (4, 2, bench, (("k", 1),), (("ann", 3, None),))):
                self.assertEqual(read_stand(shown_stand(stand)), stand)

    def test_kinds(self):
        told = read_stand(TEXT)
        for part in (told, told[2], told[3], told[4]) + told[2] + told[3] + told[4]:
            self.assertIs(type(part), tuple)
        for number in (told[0], told[1], told[3][0][1], told[4][0][1], told[4][1][2]):
            self.assertIs(type(number), int)
        self.assertIsNone(told[4][0][2])

    def test_a_table_as_it_comes_of_works(self):
        table = Table((), ())
        for number in range(600):
            table.does("ann", number + 1, ("add", "kz"[number % 2], SIXTY * (-1) ** (number % 2)))
        table.does("bob", SIXTY, ("drop", "none"))
        held, asked = table.told()
        stand = (601, 4, BENCHES[0], held, asked)
        self.assertEqual(read_stand(shown_stand(stand)), stand)

    def test_a_cut_row_s_stand(self):
        row = Row(first_stand(BENCHES[0]), ((2, ("bench", BENCHES[9])), (3, ("first",))))
        stand = row.cut(1, Table((), ())).stand
        self.assertEqual(shown_stand(stand), "stand 1 2\nbench a b / b c / d")
        self.assertEqual(read_stand(shown_stand(stand)), stand)

    def test_many_keys_and_askers(self):
        names = sorted(one + other for one, other in itertools.product("abcdefghijklmnopqrst", repeat=2))
        held = tuple((name, number - 200) for number, name in enumerate(names))
        asked = tuple((name, number + 1, None if number % 3 else -number) for number, name in enumerate(names))
        stand = (SIXTY, SIXTY, BENCHES[-1], held, asked)
        self.assertEqual(read_stand(shown_stand(stand)), stand)


class NotRead(Refusing):
    def test_texts_that_write_no_stand(self):
        for text in NO_TEXTS:
            with self.subTest(text):
                self.refuses(NoText, read_stand, text)

    def test_numbers(self):
        for number, word in enumerate(NO_NUMBERS):
            with self.subTest(number=number):
                self.refuses(NoText, read_stand, f"stand {word} 1\nbench a / /")
                self.refuses(NoText, read_stand, f"stand 1 {word}\nbench a / /")
                self.refuses(NoText, read_stand, f"stand 0 {word}\nbench a / /")
                self.refuses(NoText, read_stand, f"stand 1 1\nbench a / /\nheld k {word}")
                self.refuses(NoText, read_stand, f"stand 1 1\nbench a / /\nasked ann {word} 1")
                if word != "-":
                    self.refuses(NoText, read_stand, f"stand 1 1\nbench a / /\nasked ann 1 {word}")

    def test_blanks(self):
        for _, text in SHOWN:
            rows = text.split("\n")
            for number, row in enumerate(rows):
                spoilt = [" " + row, row + " "] + [row[:k] + " " + row[k:] for k in range(len(row)) if row[k] == " "]
                for other in spoilt:
                    with self.subTest(other):
                        self.refuses(NoText, read_stand, "\n".join(rows[:number] + [other] + rows[number + 1:]))

    def test_line_ends_at_the_ends(self):
        for _, text in SHOWN:
            for spoilt in (text + "\n", "\n" + text, text + "\r", text.replace("\n", "\n\n"), text.replace("\n", "\r\n")):
                self.refuses(NoText, read_stand, spoilt)

    def test_rows_in_every_other_order(self):
        rows = TEXT.split("\n")
        for order in itertools.permutations(rows):
            if list(order) != rows:
                self.refuses(NoText, read_stand, "\n".join(order))

    def test_each_row_twice(self):
        rows = TEXT.split("\n")
        for number in range(len(rows)):
            for place in range(len(rows) + 1):
                self.refuses(NoText, read_stand, "\n".join(rows[:place] + [rows[number]] + rows[place:]))

    def test_each_sign_put_in_or_left_out_writes_another_stand_or_none(self):
        for place in range(len(TEXT) + 1):
            others = [TEXT[:place] + sign + TEXT[place:] for sign in " \n/-+0a1AZ~"] + [TEXT[:place] + TEXT[place + 1:]]
            for other in others:
                try:
                    stand = read_stand(other)
                except NoText:
                    continue
                self.assertEqual(shown_stand(stand), other)
                self.assertEqual(stand == STAND, other == TEXT)


class Pieces(unittest.TestCase):
    def test_sizes(self):
        for size, told in (
            (1, ("a", "b", "c", "d", "e")), (2, ("ab", "cd", "e")), (3, ("abc", "de")), (4, ("abcd", "e")),
            (5, ("abcde",)), (6, ("abcde",)), (200, ("abcde",)), (SIXTY, ("abcde",)),
        ):
            self.assertEqual(pieces("abcde", size), told)

    def test_what_is_left(self):
        self.assertEqual(pieces("abcdef", 2), ("ab", "cd", "ef"))
        self.assertEqual(pieces("abcdef", 3), ("abc", "def"))
        self.assertEqual(pieces("abcdefg", 3), ("abc", "def", "g"))

    def test_a_text_without_signs(self):
        for size in (1, 2, 200):
            self.assertEqual(pieces("", size), ())

    def test_a_text_of_one_sign(self):
        for size in (1, 2):
            self.assertEqual(pieces("\n", size), ("\n",))

    def test_every_size_of_a_stand_s_text(self):
        for size in range(1, len(TEXT) + 3):
            told = pieces(TEXT, size)
            self.assertIs(type(told), tuple)
            self.assertEqual("".join(told), TEXT)
            self.assertEqual([len(piece) for piece in told[:-1]], [size] * (len(told) - 1))
            self.assertTrue(1 <= len(told[-1]) <= size)
