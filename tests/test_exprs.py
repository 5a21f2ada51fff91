"""Expressions (point 7)."""

import itertools
import unittest

from beatless.exprs import Expr, Less, Mod, Name, Num, Two

WORTHS = {
    "worth": 11, "me": 3, "round": 40, "lines": 2, "to": 99,
    "sum": -7, "least": -9, "most": 2, "count": 5,
}
LONG = 10 ** 20 - 1
NUMBERS = [0, 1, -1, 7, -7, 10 ** 9, LONG, -LONG]


class Numbers(unittest.TestCase):
    def test_num(self):
        for value in NUMBERS:
            self.assertEqual(Num(value).reckon({}), value)

    def test_name(self):
        for word, worth in WORTHS.items():
            self.assertEqual(Name(word).reckon(WORTHS), worth)
            self.assertEqual(Name(word).reckon({word: worth}), worth)

    def test_two(self):
        for one, other in itertools.product(NUMBERS, repeat=2):
            numbers = [Two(word, Num(one), Num(other)).reckon({}) for word in ("add", "sub", "min", "max")]
            least, most = sorted([one, other])
            self.assertEqual(numbers, [one + other, one - other, least, most])

    def test_mod_is_never_below_nought(self):
        for inner, number in itertools.product(NUMBERS, [1, 2, 7, 10 ** 9]):
            left = Mod(Num(inner), number).reckon({})
            self.assertTrue(0 <= left < number)
            self.assertEqual((inner - left) // number * number, inner - left)
        self.assertEqual(Mod(Num(-1), 10).reckon({}), 9)
        self.assertEqual(Mod(Num(-10), 10).reckon({}), 0)
        self.assertEqual(Mod(Num(13), 10).reckon({}), 3)

    def test_less(self):
        for one, other in itertools.product(NUMBERS, repeat=2):
            number = Less(Num(one), Num(other), Num(5), Num(6)).reckon({})
            self.assertEqual(number, 5 if one < other else 6)

    def test_one_within_another(self):
        expr = Less(
            Two("sub", Name("worth"), Name("sum")),
            Two("add", Name("to"), Num(-80)),
            Mod(Name("least"), 4),
            Two("max", Name("count"), Two("min", Name("round"), Num(LONG))),
        )
        self.assertEqual(expr.reckon(WORTHS), 3)
        self.assertEqual(expr.reckon(dict(WORTHS, worth=12)), 40)

    def test_worths_as_long_as_they_come(self):
        expr = Two("add", Name("worth"), Name("worth"))
        self.assertEqual(expr.reckon({"worth": 10 ** 6000}), 2 * 10 ** 6000)
        self.assertEqual(Mod(Name("worth"), 7).reckon({"worth": -10 ** 6000}), -10 ** 6000 % 7)

    def test_the_worths_stay_as_they_were(self):
        worths = dict(WORTHS)
        for word in WORTHS:
            name = Name(word)
            for expr in (name, Two("add", name, Num(1)), Mod(name, 3), Less(name, name, name, name)):
                expr.reckon(worths)
        self.assertEqual(list(worths.items()), list(WORTHS.items()))


class Told(unittest.TestCase):
    def test_told(self):
        me = Name("me")
        five = Num(5)
        self.assertEqual(five.told(), ("num", 5))
        self.assertEqual(me.told(), ("name", "me"))
        for word in ("add", "sub", "min", "max"):
            self.assertEqual(Two(word, me, five).told(), (word, ("name", "me"), ("num", 5)))
        self.assertEqual(Mod(me, 7).told(), ("mod", ("name", "me"), 7))
        self.assertEqual(
            Less(Num(1), Num(2), Num(3), me).told(),
            ("less", ("num", 1), ("num", 2), ("num", 3), ("name", "me")),
        )

    def test_told_within(self):
        expr = Mod(Two("sub", Mod(Num(-LONG), 2), Name("to")), 10 ** 9)
        self.assertEqual(
            expr.told(),
            ("mod", ("sub", ("mod", ("num", -LONG), 2), ("name", "to")), 10 ** 9),
        )
        self.assertIs(type(expr.told()), tuple)


class Fields(unittest.TestCase):
    def check(self, expr, fields):
        self.assertIsInstance(expr, Expr)
        for field, value in fields.items():
            self.assertIs(getattr(expr, field), value)

    def test_fields_of_anything(self):
        """Nothing is looked at when an expression is made."""
        for value in (1, True, None, "me", [], {}, 1.5, Num, Expr(), 10 ** 5000):
            other = [value]
            self.check(Num(value), {"value": value})
            self.check(Name(value), {"word": value})
            self.check(Two("add", value, other), {"word": "add", "one": value, "other": other})
            self.check(Two(value, other, value), {"word": value, "one": other, "other": value})
            self.check(Mod(value, other), {"inner": value, "number": other})
            self.check(
                Less(value, other, 3, "four"),
                {"one": value, "other": other, "third": 3, "fourth": "four"},
            )

    def test_by_names_of_arguments(self):
        num = Num(value=5)
        name = Name(word="me")
        self.assertEqual(num.reckon(worths={}), 5)
        self.assertEqual(name.reckon(worths={"me": 4}), 4)
        self.assertEqual(Two(word="sub", one=num, other=num).told(), ("sub", ("num", 5), ("num", 5)))
        self.assertEqual(Mod(inner=name, number=3).told(), ("mod", ("name", "me"), 3))
        less = Less(one=Num(1), other=Num(2), third=Num(3), fourth=Num(4))
        self.assertEqual(less.told(), ("less", ("num", 1), ("num", 2), ("num", 3), ("num", 4)))

    def test_expr_by_itself(self):
        self.assertIs(type(Expr()), Expr)
        for kind in (Num, Name, Two, Mod, Less):
            self.assertEqual(kind.__bases__, (Expr,))


if __name__ == "__main__":
    unittest.main()
