"""Programs, their bounds and what they tell (point 8)."""

import itertools
import unittest
from unittest import mock

from beatless.errors import NoProgram
from beatless.exprs import Expr, Less, Mod, Name, Num, Two
from beatless.programs import Program

LONG = 10 ** 20 - 1
ALL_NAMES = ["worth", "me", "round", "lines", "to", "sum", "least", "most", "count"]
PLACES = ["start", "send", "when", "renew"]
NAMES_AT = {
    "start": ["me", "lines"],
    "send": ["worth", "me", "round", "lines", "to"],
    "when": ["worth", "me", "round", "lines", "to"],
    "renew": ["worth", "me", "round", "lines", "sum", "least", "most", "count"],
}
# What is no whole number, for a number and for mod's number.
NO_NUMBERS = [True, False, None, "1", "", 1.0, 0.5, [], [1], (), (1,), {}, Num, Num(1)]
# The last one equals every word, and is none.
NO_WORDS = [
    None, True, 0, 1, "", "You", "ME", " me", "me ", "add me", "num", "name", "5", [], ["me"], ("me",), {}, mock.ANY,
]
NO_EXPRESSIONS = [
    None, True, False, 0, 1, "", "me", "5", [], [Num(1)], (), (Num(1),), {}, ("num", 5), ("name", "me"),
    Expr(), Expr, Num, Name, Two, Mod, Less, object(), 1.5, b"me",
]


def with_one(place, expr):
    """A program of noughts but for one place."""
    four = {each: Num(0) for each in PLACES}
    four[place] = expr
    return Program(**four)


def wrapped(expr):
    """The expression as each part of each kind of expression that has parts."""
    nought = Num(0)
    return [
        Two("add", expr, nought), Two("sub", nought, expr), Two("min", expr, nought), Two("max", nought, expr),
        Mod(expr, 7),
        Less(expr, nought, nought, nought), Less(nought, expr, nought, nought),
        Less(nought, nought, expr, nought), Less(nought, nought, nought, expr),
    ]


def deepened(expr, deep):
    """One expression for each kind of step, the given one that many steps within."""
    found = []
    for step in range(len(wrapped(Num(0)))):
        inner = expr
        for turn in range(deep):
            inner = wrapped(inner)[step]
        found.append(inner)
    return found


def of_words(many):
    """An expression of that many words that is not deep; each has an odd number of them."""
    if many == 1:
        return Num(1)
    half = (many - 1) // 2
    left = half if half % 2 == 1 else half - 1
    return Two("add", of_words(left), of_words(many - 1 - left))


class Refusing(unittest.TestCase):
    def refuse(self, place, expr):
        with self.assertRaises(NoProgram) as caught:
            with_one(place, expr)
        self.assertIs(type(caught.exception), NoProgram)

    def refuse_everywhere(self, expr):
        """At each of the four places, alone and within others."""
        for place in PLACES:
            self.refuse(place, expr)
            for outer in wrapped(expr):
                self.refuse(place, outer)
            for outer in deepened(expr, 3):
                self.refuse(place, outer)


class Fields(unittest.TestCase):
    def test_the_very_objects(self):
        four = [Name("me"), Two("add", Name("worth"), Num(1)), Num(1), Mod(Name("sum"), 7)]
        program = Program(*four)
        self.assertIs(program.start, four[0])
        self.assertIs(program.send, four[1])
        self.assertIs(program.when, four[2])
        self.assertIs(program.renew, four[3])

    def test_by_names_of_arguments(self):
        program = Program(start=Num(1), send=Num(2), when=Num(3), renew=Num(4))
        self.assertEqual(program.first_worth(hand=0, lines=0), 1)
        self.assertEqual(program.word_to(worth=0, hand=0, turn=1, lines=1, other=2), 2)
        self.assertEqual(program.next_worth(worth=0, hand=0, turn=1, lines=1, heard=[]), 4)


class FirstWorth(unittest.TestCase):
    def test_names(self):
        self.assertEqual(with_one("start", Name("me")).first_worth(99, 4), 99)
        self.assertEqual(with_one("start", Name("lines")).first_worth(99, 4), 4)
        self.assertEqual(with_one("start", Two("sub", Name("lines"), Name("me"))).first_worth(7, 0), -7)


class WordTo(unittest.TestCase):
    def test_names(self):
        for name, number in zip(NAMES_AT["send"], [-8, 10, 3, 2, 55]):
            program = Program(Num(0), Name(name), Num(1), Num(0))
            self.assertEqual(program.word_to(-8, 10, 3, 2, 55), number)

    def test_names_of_when(self):
        for name, number in zip(NAMES_AT["when"], [-8, 10, 3, 2, 55]):
            program = Program(Num(0), Num(77), Less(Name(name), Num(number), Num(0), Name(name)), Num(0))
            self.assertEqual(program.word_to(-8, 10, 3, 2, 55), 77 if number > 0 else None)
            same = Less(Name(name), Num(number + 1), Less(Num(number - 1), Name(name), Num(1), Num(0)), Num(0))
            program = Program(Num(0), Num(77), same, Num(0))
            self.assertEqual(program.word_to(-8, 10, 3, 2, 55), 77)

    def test_sent_just_above_nought(self):
        program = Program(Num(0), Num(0), Name("worth"), Num(0))
        for worth in (1, 2, 10 ** 5000):
            self.assertEqual(program.word_to(worth, 0, 1, 1, 2), 0)
        for worth in (0, -1, -10 ** 5000):
            self.assertIsNone(program.word_to(worth, 0, 1, 1, 2))

    def test_numbers_below_nought_are_sent(self):
        program = Program(Num(0), Num(-LONG), Num(LONG), Num(0))
        self.assertEqual(program.word_to(0, 0, 1, 1, 2), -LONG)


class NextWorth(unittest.TestCase):
    def number(self, name, heard):
        return with_one("renew", Name(name)).next_worth(-8, 10, 3, 2, heard)

    def test_the_hands_own_names(self):
        for name, number in zip(["worth", "me", "round", "lines"], [-8, 10, 3, 2]):
            self.assertEqual(self.number(name, [4]), number)

    def test_of_the_heard(self):
        names = ["sum", "least", "most", "count"]
        for heard, numbers in [
            ([], [0, 0, 0, 0]),
            ([5], [5, 5, 5, 1]),
            ([-5], [-5, -5, -5, 1]),
            ([3, -4, 3], [2, -4, 3, 3]),
            ([7, 5, 6, 9], [27, 5, 9, 4]),
            ([-7, -5, -6], [-18, -7, -5, 3]),
            ([0, 0], [0, 0, 0, 2]),
            ([10 ** 5000, -1], [10 ** 5000 - 1, -1, 10 ** 5000, 2]),
        ]:
            self.assertEqual([self.number(name, heard) for name in names], numbers)

    def test_in_any_order(self):
        expr = Two("sub", Name("most"), Two("add", Name("least"), Two("add", Name("sum"), Name("count"))))
        for heard in itertools.permutations([4, -2, 9, 9]):
            self.assertEqual(with_one("renew", expr).next_worth(0, 0, 1, 1, list(heard)), 9 + 2 - 20 - 4)

    def test_heard_is_neither_changed_nor_kept(self):
        program = with_one("renew", Name("sum"))
        heard = [3, 1, 2]
        self.assertEqual(program.next_worth(0, 0, 1, 3, heard), 6)
        self.assertEqual(heard, [3, 1, 2])
        heard.append(10)
        self.assertEqual(program.next_worth(0, 0, 1, 3, [1]), 1)


class NamesAtTheirPlaces(Refusing):
    def test_let_by(self):
        for place in PLACES:
            for word in NAMES_AT[place]:
                with_one(place, Name(word))
                for expr in wrapped(Name(word)):
                    with_one(place, expr)

    def test_refused(self):
        for place in PLACES:
            for word in sorted(set(ALL_NAMES) - set(NAMES_AT[place])):
                self.refuse(place, Name(word))
                for expr in wrapped(Name(word)) + deepened(Name(word), 6):
                    self.refuse(place, expr)

    def test_no_names(self):
        for word in NO_WORDS:
            self.refuse_everywhere(Name(word))


class Parts(Refusing):
    def test_no_whole_numbers(self):
        for value in NO_NUMBERS:
            self.refuse_everywhere(Num(value))

    def test_twenty_figures(self):
        for place in PLACES:
            for value in (0, -1, LONG, -LONG):
                with_one(place, Num(value))
        for value in (LONG + 1, -LONG - 1, 10 ** 21, 10 ** 5000, -10 ** 5000):
            self.refuse_everywhere(Num(value))

    def test_words_of_two(self):
        for word in ("add", "sub", "min", "max"):
            for place in PLACES:
                with_one(place, Two(word, Num(1), Num(2)))
        for word in NO_WORDS + ["mod", "less", "Add", "mul", "me", ["add"], ("add",)]:
            self.refuse_everywhere(Two(word, Num(1), Num(2)))

    def test_numbers_of_mod(self):
        for number in (1, 2, 10 ** 9):
            for place in PLACES:
                with_one(place, Mod(Num(1), number))
        for number in NO_NUMBERS + [0, -1, -7, 10 ** 9 + 1, LONG, 10 ** 5000]:
            self.refuse_everywhere(Mod(Num(1), number))

    def test_no_expressions(self):
        for value in NO_EXPRESSIONS:
            self.refuse_everywhere(value)

    def test_several_wrong(self):
        with self.assertRaises(NoProgram):
            Program(None, None, None, None)
        with self.assertRaises(NoProgram):
            Program(Expr(), Num(True), Name("you"), Mod(Num(1), 0))


class Deep(Refusing):
    def test_eight_are_let_by_and_nine_are_not(self):
        for place in PLACES:
            for inner in (Num(1), Name("me")):
                for expr in deepened(inner, 7):
                    with_one(place, expr)
                for expr in deepened(inner, 8):
                    self.refuse(place, expr)
                for expr in deepened(inner, 3000):
                    self.refuse(place, expr)

    def test_eight_deep_at_all_four(self):
        eight = deepened(Num(1), 7)[4]
        Program(eight, eight, eight, Num(1))
        with self.assertRaises(NoProgram):
            Program(eight, eight, eight, Mod(eight, 2))


class Words(Refusing):
    def test_sixty_words_over_all_four(self):
        for four in itertools.product([1, 9, 15, 27, 31], repeat=4):
            exprs = [of_words(many) for many in four]
            if sum(four) <= 60:
                Program(*exprs)
            else:
                with self.assertRaises(NoProgram):
                    Program(*exprs)

    def test_just_sixty_and_two_more(self):
        Program(*[of_words(15)] * 4)
        for place in range(4):
            four = [of_words(15)] * 4
            four[place] = of_words(17)
            with self.assertRaises(NoProgram):
                Program(*four)

    def test_each_kind_in_one_place(self):
        # With three words at the other places, 57 are just let by.
        one = Num(1)
        for place in PLACES:
            for word in ("add", "sub", "min", "max"):
                with_one(place, Two(word, of_words(55), one))
                self.refuse(place, Two(word, of_words(57), one))
            with_one(place, Mod(of_words(55), 7))
            self.refuse(place, Mod(of_words(57), 7))
            with_one(place, Less(of_words(53), one, one, one))
            self.refuse(place, Less(of_words(55), one, one, one))
            with_one(place, Less(one, of_words(1), of_words(51), of_words(3)))
            self.refuse(place, Less(one, of_words(3), of_words(49), of_words(5)))

    def test_a_name_is_one_word(self):
        with_one("renew", Two("add", of_words(55), Name("count")))
        self.refuse("renew", Two("add", of_words(57), Name("count")))

    def test_the_length_of_a_word_plays_no_part(self):
        Program(Two("add", of_words(55), Num(-LONG)), Num(-LONG), Num(-LONG), Num(-LONG))

    def test_shared_parts_count_each_time(self):
        expr = Num(1)
        for turn in range(5):
            expr = Two("add", expr, expr)
        self.refuse("renew", expr)
        eight = Num(1)
        for turn in range(7):
            eight = Less(eight, eight, eight, eight)
        self.refuse("start", eight)
        for turn in range(3000):
            expr = Less(expr, expr, expr, expr)
        self.refuse("renew", expr)


if __name__ == "__main__":
    unittest.main()
