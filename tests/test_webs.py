"""Webs (point 6)."""

import itertools
import unittest

from beatless.errors import NoHand, NoWeb
from beatless.webs import Web
from samples import all_lines, some_webs

# Values that are no hands of any web; the last ones equal a hand, or can't be written out or hashed.
NO_HANDS = [
    None, "0", "", [], [0], {}, (), (0,), -1, 100, 10 ** 20, -10 ** 20, 10 ** 5000,
    True, False, 0.0, 1.0, 1.5, set(), object(), Web, Web([0], []), b"0", float("nan"),
]


def groups_by_merging(hands, lines):
    """Another way to the groups: each line makes one group of two."""
    group = {hand: {hand} for hand in hands}
    for one, other in lines:
        joined = group[one] | group[other]
        for hand in joined:
            group[hand] = joined
    return sorted({tuple(sorted(members)) for members in group.values()})


class Made(unittest.TestCase):
    def test_what_a_web_tells(self):
        for hands, lines in some_webs():
            with self.subTest(hands=hands, lines=lines):
                web = Web(hands, lines)
                self.assertEqual(web.hands(), hands)
                self.assertEqual(web.lines(), sorted(lines))
                for hand in hands:
                    near = [other for other in hands if (hand, other) in lines or (other, hand) in lines]
                    self.assertEqual(web.neighbours(hand), near)
                self.assertEqual([tuple(group) for group in web.groups()], groups_by_merging(hands, lines))

    def test_has_hand_and_has_line_of_all_numbers(self):
        for hands, lines in some_webs():
            web = Web(hands, lines)
            for one in range(-1, 101):
                self.assertIs(web.has_hand(one), one in hands)
            for one, other in itertools.product(hands + [-1, 100], repeat=2):
                self.assertIs(web.has_line(one, other), (one, other) in lines or (other, one) in lines)

    def test_lines_in_any_order(self):
        lines = [(1, 2), (1, 5), (2, 7)]
        for told in itertools.permutations(lines):
            web = Web([1, 2, 5, 7], list(told))
            self.assertEqual(web.lines(), lines)
            self.assertEqual(web.neighbours(1), [2, 5])
            self.assertEqual(web.neighbours(2), [1, 7])
            self.assertEqual(web.groups(), [[1, 2, 5, 7]])

    def test_neighbours_rise(self):
        web = Web([0, 3, 50, 99], [(3, 50), (3, 99), (0, 3)])
        self.assertEqual(web.neighbours(3), [0, 50, 99])
        self.assertEqual(web.neighbours(99), [3])

    def test_groups_by_their_least_hands(self):
        web = Web([1, 2, 3, 4, 5, 6], [(1, 6), (2, 5), (5, 6)])
        self.assertEqual(web.groups(), [[1, 2, 5, 6], [3], [4]])
        web = Web([1, 2, 3, 4, 5], [(1, 5), (2, 4)])
        self.assertEqual(web.groups(), [[1, 5], [2, 4], [3]])

    def test_the_bounds(self):
        self.assertEqual(Web([0], []).groups(), [[0]])
        self.assertEqual(Web([99], []).hands(), [99])
        self.assertEqual(Web([0, 99], [(0, 99)]).neighbours(0), [99])
        twelve = list(range(88, 100))
        web = Web(twelve, all_lines(twelve))
        self.assertEqual(len(web.lines()), 66)
        self.assertEqual(web.groups(), [twelve])
        self.assertEqual(web.neighbours(88), twelve[1:])
        self.assertEqual(Web(twelve, []).groups(), [[hand] for hand in twelve])

    def test_by_names_of_arguments(self):
        web = Web(hands=[1, 2], lines=[(1, 2)])
        self.assertEqual(web.neighbours(hand=1), [2])
        self.assertIs(web.has_hand(hand=2), True)
        self.assertIs(web.has_line(one=2, other=1), True)


class OfAnything(unittest.TestCase):
    def setUp(self):
        self.web = Web([0, 1, 2], [(0, 1), (1, 2)])

    def test_has_hand(self):
        for value in NO_HANDS:
            self.assertIs(self.web.has_hand(value), False)

    def test_has_line(self):
        for value, hand in itertools.product(NO_HANDS, [0, 1, 2]):
            self.assertIs(self.web.has_line(value, hand), False)
            self.assertIs(self.web.has_line(hand, value), False)
        for one, other in itertools.product(NO_HANDS, repeat=2):
            self.assertIs(self.web.has_line(one, other), False)

    def test_no_line_of_a_hand_with_itself(self):
        for hand in [0, 1, 2]:
            self.assertIs(self.web.has_line(hand, hand), False)

    def test_no_hand(self):
        for value in NO_HANDS + [3, 99]:
            with self.assertRaises(NoHand):
                self.web.neighbours(value)


class Refused(unittest.TestCase):
    def refuse(self, hands, lines):
        with self.assertRaises(NoWeb) as caught:
            Web(hands, lines)
        self.assertIs(type(caught.exception), NoWeb)

    def test_hands(self):
        wrong = [
            [], [2, 1], [1, 1], [0, 1, 1], [1, 3, 2], [0, 0], [-1], [-1, 0], [100], [0, 100],
            [10 ** 20], [10 ** 5000], list(range(13)), list(range(100)),
            [True], [False], [0, True], [False, 1], [True, 2], ["1"], [0, "1"], [None], [0, None],
            [1.0], [0, 1.0], [[1]], [(1,)], [0, [1]], [{}], [set()], [float("nan")],
            (), (1,), (1, 2), None, True, False, 0, 1, "", "1", {}, {1: 2}, {1}, range(3), iter([1]), b"1", Web,
        ]
        for hands in wrong:
            self.refuse(hands, [])

    def test_lines(self):
        wrong = [
            None, True, False, 0, 1, "", "12", (), ((1, 2),), {}, {(1, 2): True}, {(1, 2)}, iter([(1, 2)]), Web,
            [(2, 1)], [(1, 1)], [(1, 2), (1, 2)], [(1, 2), (2, 3), (1, 2)], [(1, 2), (2, 1)],
            [(1, 9)], [(0, 1)], [(-1, 1)], [(1, 100)], [(8, 9)], [(1, 10 ** 5000)],
            [[1, 2]], [(1, 2), [2, 3]], [(1,)], [()], [(1, 2, 3)], [(1, 2, 2)], [(1, 2), (2, 3, 3)],
            [(True, 2)], [(1, True)], [(False, 1)], [(1.0, 2)], [(1, 2.0)], [("1", "2")], [("1", 2)], [(1, "2")],
            [(None, 2)], [(1, None)], [(None, None)], [([1], 2)], [(1, [2])], [((1, 2), 3)], [({}, 2)],
            [None], [True], [1], [1, 2], ["12"], ["ab"], [{1: 2}], [{1, 2}], [range(1, 3)], [(1, float("nan"))],
        ]
        for lines in wrong:
            self.refuse([1, 2, 3], lines)
        self.refuse([0, 1], [(False, True)])
        self.refuse([0, 1], [(0, True)])
        self.refuse([0, 1], [(False, 1)])

    def test_both(self):
        self.refuse(None, None)
        self.refuse([2, 1], [(1, 2)])
        self.refuse([], [(1, 2)])


class NothingKept(unittest.TestCase):
    def test_what_is_handed_in_is_neither_changed_nor_kept(self):
        hands = [1, 2, 3]
        lines = [(2, 3), (1, 2)]
        web = Web(hands, lines)
        self.assertEqual((hands, lines), ([1, 2, 3], [(2, 3), (1, 2)]))
        hands.append(4)
        hands[0] = 0
        lines.clear()
        self.check(web)

    def test_each_list_told_is_a_new_one(self):
        web = Web([1, 2, 3], [(2, 3), (1, 2)])
        for told in (web.hands(), web.lines(), web.neighbours(2), web.groups(), web.groups()[0]):
            told.reverse()
            told.append("more")
        groups = web.groups()
        groups[0].clear()
        self.check(web)

    def check(self, web):
        self.assertEqual(web.hands(), [1, 2, 3])
        self.assertEqual(web.lines(), [(1, 2), (2, 3)])
        self.assertEqual(web.neighbours(2), [1, 3])
        self.assertEqual(web.groups(), [[1, 2, 3]])
        self.assertIs(web.has_hand(4), False)
        self.assertIs(web.has_line(2, 1), True)

    def test_what_is_refused_changes_nothing(self):
        hands = [1, 2]
        lines = [(1, 2), (2, 1)]
        with self.assertRaises(NoWeb):
            Web(hands, lines)
        self.assertEqual((hands, lines), ([1, 2], [(1, 2), (2, 1)]))
        web = Web([1, 2, 3], [(1, 2), (2, 3)])
        with self.assertRaises(NoHand):
            web.neighbours(4)
        self.check(web)


if __name__ == "__main__":
    unittest.main()
