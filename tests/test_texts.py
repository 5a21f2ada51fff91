"""Texts of programs (point 9)."""

import random
import unittest

from beatless.errors import NoProgram, NoText
from beatless.exprs import Less, Mod, Name, Num, Two
from beatless.programs import Program, program_text, read_program

LONG = 10 ** 20 - 1
ALL_NAMES = ["worth", "me", "round", "lines", "to", "sum", "least", "most", "count"]
SEND_NAMES = ALL_NAMES[:5]
RENEW_NAMES = ALL_NAMES[:4] + ALL_NAMES[5:]
ROW_WORDS = ["start", "send", "when", "reckon"]
GOOD = ["start me", "send worth", "when 1", "reckon sum"]


def told(program):
    return [program.start.told(), program.send.told(), program.when.told(), program.renew.told()]


def text_with(row, expression):
    """A good text but for the words of one row."""
    rows = list(GOOD)
    rows[row] = ROW_WORDS[row] + " " + expression
    return "\n".join(rows)


def some_expr(chance, names, deep):
    pick = chance.randrange(5) if deep > 1 else chance.randrange(2)
    parts = [some_expr(chance, names, deep - 1) for each in range([0, 0, 2, 1, 4][pick])]
    if pick == 0:
        return Num(chance.choice([0, 1, -1, 10, -10, 100, LONG, -LONG, chance.randrange(-LONG, LONG)]))
    if pick == 1:
        return Name(chance.choice(names))
    if pick == 2:
        return Two(chance.choice(["add", "sub", "min", "max"]), *parts)
    if pick == 3:
        return Mod(parts[0], chance.choice([1, 10, 10 ** 9, chance.randrange(1, 10 ** 9)]))
    return Less(*parts)


def some_programs(many):
    chance = random.Random(9)
    while many > 0:
        names = [["me", "lines"], SEND_NAMES, SEND_NAMES, RENEW_NAMES]
        exprs = [some_expr(chance, each, chance.randrange(1, 5)) for each in names]
        try:
            yield Program(*exprs)
        except NoProgram:
            continue
        many -= 1


class Written(unittest.TestCase):
    def test_the_four_rows(self):
        program = Program(
            Two("sub", Name("me"), Num(-5)),
            Mod(Two("add", Name("worth"), Name("to")), 10 ** 9),
            Less(Name("round"), Num(3), Num(0), Two("max", Name("lines"), Num(1))),
            Two("min", Name("least"), Num(-LONG)),
        )
        self.assertEqual(
            program_text(program),
            "start sub me -5\n"
            "send mod add worth to 1000000000\n"
            "when less round 3 0 max lines 1\n"
            "reckon min least -99999999999999999999",
        )
        self.assertEqual(program_text(program=program), program_text(program))

    def test_one_word_rows(self):
        program = Program(Num(0), Num(-1), Num(LONG), Name("count"))
        self.assertEqual(
            program_text(program),
            "start 0\nsend -1\nwhen 99999999999999999999\nreckon count",
        )


class Read(unittest.TestCase):
    def test_a_text(self):
        program = read_program("start sub me lines\nsend mod add worth to 7\nwhen less round -3 0 1\nreckon max 0 most")
        self.assertIs(type(program), Program)
        self.assertEqual(told(program), [
            ("sub", ("name", "me"), ("name", "lines")),
            ("mod", ("add", ("name", "worth"), ("name", "to")), 7),
            ("less", ("name", "round"), ("num", -3), ("num", 0), ("num", 1)),
            ("max", ("num", 0), ("name", "most")),
        ])
        self.assertEqual(told(read_program(text="\n".join(GOOD)))[0], ("name", "me"))

    def test_the_order_of_parts(self):
        program = read_program(text_with(3, "less sub 1 2 add 3 4 less 5 6 7 8 mod mod 9 10 11"))
        self.assertEqual(told(program)[3], (
            "less",
            ("sub", ("num", 1), ("num", 2)),
            ("add", ("num", 3), ("num", 4)),
            ("less", ("num", 5), ("num", 6), ("num", 7), ("num", 8)),
            ("mod", ("mod", ("num", 9), 10), 11),
        ))

    def test_written_and_read_back(self):
        for program in some_programs(400):
            text = program_text(program)
            again = read_program(text)
            self.assertEqual(told(again), told(program))
            self.assertEqual(program_text(again), text)

    def test_sixty_words_and_eight_deep(self):
        eight = "mod " * 7 + "1" + " 2" * 7
        for row in range(4):
            # With three words in the other rows, 57 are just let by.
            for words in (tree(57), eight):
                text = text_with(row, words)
                self.assertEqual(program_text(read_program(text)), text)
            for words in (tree(59), "mod " + eight + " 2"):
                with self.assertRaises(NoProgram):
                    read_program(text_with(row, words))

    def test_numbers(self):
        for word in ("0", "5", "-5", "10", "-10", "99999999999999999999", "-99999999999999999999"):
            self.assertEqual(told(read_program(text_with(2, word)))[2], ("num", int(word)))


def tree(many):
    """An expression's text of that many words, an odd number, and not deep."""
    if many == 1:
        return "1"
    half = (many - 1) // 2
    left = half if half % 2 == 1 else half - 1
    return "add " + tree(left) + " " + tree(many - 1 - left)


class NoTexts(unittest.TestCase):
    def refuse(self, text, row):
        with self.assertRaises(NoText) as caught:
            read_program(text)
        self.assertIs(type(caught.exception), NoText)
        self.assertEqual(caught.exception.row, row)
        self.assertIs(type(caught.exception.row), int)

    def refuse_in_each_row(self, expression):
        for row in range(4):
            self.refuse(text_with(row, expression), row)
            for inner in ("add %s 1", "max 1 %s", "mod %s 7", "less 1 %s 1 1", "less 1 1 1 add 1 %s"):
                self.refuse(text_with(row, inner % expression), row)

    def test_no_text_at_all(self):
        for value in (None, True, 0, 3, [], GOOD, tuple(GOOD), {}, b"start me", read_program, Program(*[Num(0)] * 4)):
            self.refuse(value, 0)

    def test_rows_that_lack(self):
        self.refuse("", 0)
        for many in range(1, 4):
            self.refuse("\n".join(GOOD[:many]), many)
            self.refuse("\n".join(GOOD[:many]) + "\n", many)

    def test_rows_too_many(self):
        good = "\n".join(GOOD)
        for more in ("\n", "\n\n", "\nstart me", "\nreckon sum", "\nrounds 3", "\n\nstart me\n"):
            self.refuse(good + more, 4)

    def test_the_first_wrong_row_is_told(self):
        good = "\n".join(GOOD)
        self.refuse("\n" + good, 0)
        for row in range(4):
            rows = list(GOOD)
            rows[row] = "wrong"
            self.refuse("\n".join(rows), row)
            self.refuse("\n".join(rows) + "\nmore\nmore", row)
            self.refuse("\n".join(rows[:row + 1]), row)
            rows[3] = "wrong too"
            self.refuse("\n".join(rows), row)
            rows[row] = ""
            self.refuse("\n".join(rows), row)

    def test_rows_in_other_places(self):
        for one in range(4):
            for other in range(one + 1, 4):
                rows = list(GOOD)
                rows[one], rows[other] = rows[other], rows[one]
                self.refuse("\n".join(rows), one)
            rows = GOOD[:one] + GOOD[one + 1:]
            self.refuse("\n".join(rows), one)
            rows = GOOD[:one + 1] + GOOD[one:]
            self.refuse("\n".join(rows), one + 1)

    def test_first_words(self):
        for row in range(4):
            for first in ("Start", "renew", "START", "", "add", "me", "starts", "sen", ROW_WORDS[row] + ROW_WORDS[row]):
                rows = list(GOOD)
                rows[row] = first + " 1"
                self.refuse("\n".join(rows), row)
            for whole in (ROW_WORDS[row], "1", ROW_WORDS[row] + "1", ROW_WORDS[row] + " " + ROW_WORDS[row] + " 1"):
                rows = list(GOOD)
                rows[row] = whole
                self.refuse("\n".join(rows), row)

    def test_blanks(self):
        for row in range(4):
            first = ROW_WORDS[row]
            for wrong in (
                "", " ", first + " ", " " + first + " 1", first + "  1", first + " 1 ", first + " 1  ",
                first + " add  1 1", first + " add 1  1", first + " mod 1  2", first + " mod 1 2 ",
                first + "\t1", first + " add\t1 1", first + " 1\t",
            ):
                rows = list(GOOD)
                rows[row] = wrong
                self.refuse("\n".join(rows), row)

    def test_numbers_written_otherwise(self):
        for word in (
            "-0", "00", "01", "-01", "007", "-007", "+1", "+0", "--1", "-", "+", "1-", "1_0", "1.0", "1.", ".5",
            "1e3", "0x1", "1,000", "- 1", "0-", "0" * 21, "-" + "0" * 30, "0" * 5000, "1" * 5000 + "x",
        ):
            self.refuse_in_each_row(word)
            for row in range(4):
                self.refuse(text_with(row, "mod 1 " + word), row)

    def test_no_other_sign_is_a_figure(self):
        for code in range(ord("!"), ord("~") + 1):
            if not chr(code).isdigit():
                for word in ("1" + chr(code), "-1" + chr(code) + "1", chr(code) + chr(code) + "1"):
                    for row in range(4):
                        self.refuse(text_with(row, word), row)

    def test_no_words(self):
        for word in ("you", "Me", "ME", "num", "name", "num 5", "name me", "Add 1 1", "mul 1 1", "start", "()", "True",
                     "renew", "reckon", "if", "~", "'me'"):
            self.refuse_in_each_row(word)

    def test_a_word_too_few(self):
        for words in (
            "add", "add 1", "sub me", "min", "max 1", "mod", "mod 1", "mod me", "less", "less 1", "less 1 2",
            "less 1 2 3", "add add 1 2", "mod mod 1 2", "add mod 1 2", "less 1 2 3 add 4",
        ):
            for row in range(4):
                self.refuse(text_with(row, words), row)

    def test_a_word_too_many(self):
        for words in (
            "1 1", "me 1", "1 me", "me add", "add 1 2 3", "sub me 1 me", "min 1 1 1", "max 1 1 add", "mod 1 2 3",
            "less 1 2 3 4 5", "1 add 1 2", "add 1 2 add 1 2", "mod 1 2 mod", "less 1 2 3 4 less",
        ):
            for row in range(4):
                self.refuse(text_with(row, words), row)

    def test_the_number_of_mod_is_a_number(self):
        for words in ("mod 1 me", "mod me me", "mod 1 lines", "mod 1 add 1 2", "mod 1 mod 3 4", "mod 5 less 1 2 3 4"):
            self.refuse_in_each_row(words)

    def test_long_and_deep_rows(self):
        for row in range(4):
            self.refuse(text_with(row, "add " * 399 + "1"), row)
            self.refuse(text_with(row, "add " * 199 + "1 " * 199 + "1 1"), row)
            self.refuse(text_with(row, "add " * 200 + "1 " * 199 + "1"), row)
            self.refuse(text_with(row, "mod " * 199 + "1" + " 2" * 198 + " me"), row)
            self.refuse(text_with(row, "1 " * 400 + "1"), row)

    def test_a_row_counts_though_the_program_would_be_refused(self):
        self.refuse("start worth\nsend sum\nwhen mod 1 0\nreckon you", 3)
        self.refuse("start worth\nsend sum\nwhen mod 1 0\nreckon to\n", 4)
        self.refuse("start worth\nsend sum", 2)


class NoPrograms(unittest.TestCase):
    def refuse(self, text):
        with self.assertRaises(NoProgram) as caught:
            read_program(text)
        self.assertIs(type(caught.exception), NoProgram)

    def test_names_at_other_places(self):
        lets = [["me", "lines"], SEND_NAMES, SEND_NAMES, RENEW_NAMES]
        for row in range(4):
            for name in ALL_NAMES:
                if name in lets[row]:
                    self.assertEqual(told(read_program(text_with(row, name)))[row], ("name", name))
                else:
                    self.refuse(text_with(row, name))
                    self.refuse(text_with(row, "less 1 1 1 mod " + name + " 2"))

    def test_numbers(self):
        for row in range(4):
            for word in ("1" + "0" * 20, "-1" + "0" * 20, "1" + "0" * 21, "1" * 30, "-" + "1" * 30, "9" * 5000,
                         "-" + "9" * 5000):
                self.refuse(text_with(row, word))
                self.refuse(text_with(row, "add 1 " + word))

    def test_numbers_of_mod(self):
        for row in range(4):
            for word in ("0", "-1", "-7", "1000000001", "99999999999999999999", "1" + "0" * 20, "9" * 5000, "-" + "9" * 5000):
                self.refuse(text_with(row, "mod 1 " + word))
            for word in ("1", "1000000000"):
                self.assertEqual(told(read_program(text_with(row, "mod 1 " + word)))[row], ("mod", ("num", 1), int(word)))

    def test_long_and_deep_rows(self):
        for row in range(4):
            self.refuse(text_with(row, "add " * 199 + "1 " * 199 + "1"))
            self.refuse(text_with(row, "add 1 " * 199 + "1"))
            self.refuse(text_with(row, "mod " * 199 + "1" + " 2" * 199))
            self.refuse(text_with(row, "less 1 2 3 " * 99 + "4"))
            self.refuse(text_with(row, "less " * 99 + "1 2 3 4" + " 2 3 4" * 98))
            self.refuse(text_with(row, tree(399)))
            self.refuse(text_with(row, "mod " * 2500 + "1" + " 2" * 2500))
        self.refuse("\n".join(first + " " + "mod " * 199 + "1" + " 2" * 199 for first in ROW_WORDS))


if __name__ == "__main__":
    unittest.main()
