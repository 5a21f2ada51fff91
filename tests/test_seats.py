"""Hands: what they send when they begin and when they take letters, and what they tell (points 17 to 19)."""

import copy
import random
import unittest

from beatless.errors import NoRound
from beatless.plain import plain_heard, plain_worths
from beatless.programs import read_program
from beatless.seats import Seat
from beatless.ways import Way, by_clusters, by_neighbours, by_tree
from beatless.webs import Web
from samples import ANYTHING, Table, path_web, some_settings

GATHER = read_program("start me\nsend worth\nwhen 1\nreckon add worth sum")
SILENT = read_program("start me\nsend worth\nwhen 0\nreckon add worth round")
TO_GREATER = read_program("start me\nsend worth\nwhen less me to 1 0\nreckon add worth sum")
TWO = Web([1, 2], [(1, 2)])


class Reference:
    """Points 17 to 19 as a list of rules: the first one that may be done and wasn't yet in this round is done next."""

    def __init__(self, web, way, program, rounds, hand):
        self.web, self.way, self.program, self.rounds, self.hand = web, way, program, rounds, hand
        self.worths = [program.first_worth(hand, len(web.neighbours(hand)))]
        self.taken = []
        self.rules = [
            ("through", self.is_through, lambda: self.tell("through", self.up())),
            ("all", self.knows_all, lambda: self.tell("all", self.down()) + self.tell("beside", self.over())),
            ("clear", self.is_clear, lambda: self.tell("clear", self.up())),
            ("go", self.goes_on, lambda: self.tell("go", self.down())),
        ]

    def up(self):
        return [each for each in self.web.hands() if each == self.way.parent_of(self.hand)]

    def down(self):
        return [each for each in self.web.hands() if self.way.parent_of(each) == self.hand]

    def over(self):
        lines = self.way.all_bridges()
        return [each for each in self.web.hands() if (each, self.hand) in lines or (self.hand, each) in lines]

    def turn(self):
        return len(self.worths)

    def has(self, kind, others):
        return all((kind, other, self.hand, self.turn(), None) in self.taken for other in others)

    def tell(self, kind, others):
        return [(kind, self.hand, other, self.turn(), None) for other in others]

    def words(self):
        lines = len(self.web.neighbours(self.hand))
        found = []
        for other in self.web.neighbours(self.hand):
            number = self.program.word_to(self.worths[-1], self.hand, self.turn(), lines, other)
            if number is not None:
                found.append(("word", self.hand, other, self.turn(), number))
        return found

    def is_through(self):
        return self.has("got", [word[2] for word in self.words()]) and self.has("through", self.down())

    def knows_all(self):
        return self.has("all", self.up()) if self.up() else "through" in self.did

    def is_clear(self):
        return self.knows_all() and self.has("beside", self.over()) and self.has("clear", self.down())

    def goes_on(self):
        return self.has("go", self.up()) if self.up() else "clear" in self.did

    def begin(self):
        self.did = []
        return (self.words() + self.work()) if self.turn() <= self.rounds else []

    def work(self):
        for name, may, do in self.rules:
            if self.turn() <= self.rounds and name not in self.did and may():
                self.did.append(name)
                sent = do()
                if name == "go":
                    heard = [each[4] for each in self.taken if each[0] == "word" and each[3] == self.turn()]
                    lines = len(self.web.neighbours(self.hand))
                    worth = self.program.next_worth(self.worths[-1], self.hand, self.turn(), lines, heard)
                    self.worths.append(worth)
                    return sent + self.begin()
                return sent + self.work()
        return []

    def take(self, letter):
        self.taken.append(letter)
        got = [("got", self.hand, letter[1], letter[3], None)] if letter[0] == "word" else []
        return got + self.work()


class Letters(unittest.TestCase):
    """Letters are told as they come onto the road: each row is one that is taken, and those that are sent for it."""

    def take(self, seat, letter, sent):
        self.assertEqual(seat.take(letter), sent)

    def test_begin(self):
        web = Web([1, 4, 7, 9], [(4, 9), (1, 4), (4, 7)])
        program = read_program("start lines\nsend sub to me\nwhen sub to 5\nreckon worth")
        for make in (by_neighbours, by_tree):
            self.assertEqual(Seat(web, make(web), program, 1, 4).begin(), [("word", 4, 7, 1, 3), ("word", 4, 9, 1, 5)])
            self.assertEqual(Seat(web, make(web), program, 0, 4).begin(), [])

    def test_two_hands_by_tree(self):
        one = Seat(TWO, by_tree(TWO), GATHER, 2, 1)
        two = Seat(TWO, by_tree(TWO), GATHER, 2, 2)
        self.assertEqual(one.begin(), [("word", 1, 2, 1, 1)])
        self.assertEqual(two.begin(), [("word", 2, 1, 1, 2)])
        self.take(one, ("word", 2, 1, 1, 2), [("got", 1, 2, 1, None)])
        self.take(two, ("word", 1, 2, 1, 1), [("got", 2, 1, 1, None)])
        self.take(one, ("got", 2, 1, 1, None), [])
        self.take(two, ("got", 1, 2, 1, None), [("through", 2, 1, 1, None)])
        self.take(one, ("through", 2, 1, 1, None), [("all", 1, 2, 1, None)])
        self.take(two, ("all", 1, 2, 1, None), [("clear", 2, 1, 1, None)])
        self.assertEqual((one.ended(), two.ended()), (0, 0))
        self.take(one, ("clear", 2, 1, 1, None), [("go", 1, 2, 1, None), ("word", 1, 2, 2, 3)])
        self.assertEqual((one.ended(), two.ended()), (1, 0))
        # The word of round 2 comes ahead: it is answered, and heard in its own round.
        self.take(two, ("word", 1, 2, 2, 3), [("got", 2, 1, 2, None)])
        self.assertEqual(two.ended(), 0)
        self.take(two, ("go", 1, 2, 1, None), [("word", 2, 1, 2, 3)])
        self.assertEqual((two.ended(), two.heard(1), two.worth(1)), (1, [(1, 1)], 3))
        self.take(one, ("got", 2, 1, 2, None), [])
        self.take(one, ("word", 2, 1, 2, 3), [("got", 1, 2, 2, None)])
        self.take(two, ("got", 1, 2, 2, None), [("through", 2, 1, 2, None)])
        self.take(one, ("through", 2, 1, 2, None), [("all", 1, 2, 2, None)])
        self.take(two, ("all", 1, 2, 2, None), [("clear", 2, 1, 2, None)])
        self.take(one, ("clear", 2, 1, 2, None), [("go", 1, 2, 2, None)])
        self.take(two, ("go", 1, 2, 2, None), [])
        for seat, heard in ((one, [(2, 2)]), (two, [(1, 1)])):
            self.assertEqual((seat.ended(), seat.worth(1), seat.worth(2), seat.heard(1)), (2, 3, 6, heard))
        self.assertEqual((one.heard(2), two.heard(2)), ([(2, 3)], [(1, 3)]))

    def test_three_hands_by_neighbours_a_beside_comes_ahead(self):
        web = path_web([1, 2, 3])
        seat = Seat(web, by_neighbours(web), GATHER, 2, 2)
        self.assertEqual(seat.begin(), [("word", 2, 1, 1, 2), ("word", 2, 3, 1, 2)])
        self.take(seat, ("word", 1, 2, 1, 1), [("got", 2, 1, 1, None)])
        self.take(seat, ("beside", 1, 2, 1, None), [])
        self.take(seat, ("got", 1, 2, 1, None), [])
        self.take(seat, ("word", 3, 2, 1, 3), [("got", 2, 3, 1, None)])
        self.take(seat, ("got", 3, 2, 1, None), [("beside", 2, 1, 1, None), ("beside", 2, 3, 1, None)])
        # Hand 1 is in round 2 by now, hand 3 has not told beside of round 1 yet.
        self.take(seat, ("word", 1, 2, 2, 10), [("got", 2, 1, 2, None)])
        self.take(seat, ("beside", 1, 2, 2, None), [])
        self.assertEqual(seat.ended(), 0)
        self.take(seat, ("beside", 3, 2, 1, None), [("word", 2, 1, 2, 6), ("word", 2, 3, 2, 6)])
        self.assertEqual((seat.ended(), seat.heard(1), seat.worth(1)), (1, [(1, 1), (3, 3)], 6))
        self.take(seat, ("got", 1, 2, 2, None), [])
        self.take(seat, ("word", 3, 2, 2, 20), [("got", 2, 3, 2, None)])
        self.take(seat, ("got", 3, 2, 2, None), [("beside", 2, 1, 2, None), ("beside", 2, 3, 2, None)])
        self.assertEqual(seat.ended(), 1)
        self.take(seat, ("beside", 3, 2, 2, None), [])
        self.assertEqual((seat.ended(), seat.heard(2), seat.worth(2)), (2, [(1, 10), (3, 20)], 36))

    def test_a_hand_with_a_parent_children_and_bridges(self):
        web = Web([2, 3, 4, 5, 8, 9], [(4, 5), (2, 5), (5, 8), (3, 5), (5, 9)])
        way = Way({2: 5, 8: 5, 5: 4, 4: None, 3: None, 9: None}, [(5, 9), (3, 5)])
        seat = Seat(web, way, GATHER, 2, 5)
        near = [2, 3, 4, 8, 9]
        self.assertEqual(seat.begin(), [("word", 5, other, 1, 5) for other in near])
        for other in (9, 2, 8, 3, 4):
            self.take(seat, ("word", other, 5, 1, -other), [("got", 5, other, 1, None)])
        for other in (9, 8, 4, 3):
            self.take(seat, ("got", other, 5, 1, None), [])
        self.take(seat, ("through", 2, 5, 1, None), [])
        self.take(seat, ("through", 8, 5, 1, None), [])
        self.take(seat, ("got", 2, 5, 1, None), [("through", 5, 4, 1, None)])
        self.take(seat, ("beside", 9, 5, 1, None), [])
        self.take(seat, ("all", 4, 5, 1, None), [
            ("all", 5, 2, 1, None), ("all", 5, 8, 1, None), ("beside", 5, 3, 1, None), ("beside", 5, 9, 1, None),
        ])
        self.take(seat, ("word", 9, 5, 2, 77), [("got", 5, 9, 2, None)])
        self.take(seat, ("clear", 2, 5, 1, None), [])
        self.take(seat, ("clear", 8, 5, 1, None), [])
        self.take(seat, ("beside", 3, 5, 1, None), [("clear", 5, 4, 1, None)])
        self.assertEqual(seat.ended(), 0)
        # 5 - 9 - 2 - 8 - 3 - 4 = -21; what was heard ahead of round 2 plays no part.
        self.take(seat, ("go", 4, 5, 1, None), [("go", 5, 2, 1, None), ("go", 5, 8, 1, None)] + [
            ("word", 5, other, 2, -21) for other in near
        ])
        self.assertEqual((seat.ended(), seat.worth(1)), (1, -21))
        self.assertEqual(seat.heard(1), [(other, -other) for other in near])

    def test_a_leader_with_children_and_bridges(self):
        web = Web([1, 2, 3, 4, 5], [(1, 3), (2, 3), (3, 4), (3, 5)])
        way = Way({3: None, 2: 3, 5: 3, 1: None, 4: None}, [(1, 3), (3, 4)])
        seat = Seat(web, way, SILENT, 2, 3)
        self.assertEqual(seat.begin(), [])
        self.take(seat, ("through", 5, 3, 1, None), [])
        self.take(seat, ("beside", 4, 3, 1, None), [])
        self.take(seat, ("through", 2, 3, 1, None), [
            ("all", 3, 2, 1, None), ("all", 3, 5, 1, None), ("beside", 3, 1, 1, None), ("beside", 3, 4, 1, None),
        ])
        self.take(seat, ("clear", 2, 3, 1, None), [])
        self.take(seat, ("beside", 1, 3, 1, None), [])
        self.take(seat, ("beside", 4, 3, 2, None), [])
        self.take(seat, ("clear", 5, 3, 1, None), [("go", 3, 2, 1, None), ("go", 3, 5, 1, None)])
        self.assertEqual((seat.ended(), seat.worth(1)), (1, 4))

    def test_two_clusters_without_words(self):
        web = path_web([1, 2, 3, 4, 5])
        way = Way({1: 2, 2: None, 3: 2, 4: None, 5: 4}, [(3, 4)])
        seats = {hand: Seat(web, way, SILENT, 2, hand) for hand in web.hands()}
        begun = [[("through", 1, 2, 1, None)], [], [("through", 3, 2, 1, None)], [], [("through", 5, 4, 1, None)]]
        self.assertEqual([seats[hand].begin() for hand in web.hands()], begun)
        for kind, one, other, turn, sent in (
            ("through", 1, 2, 1, []),
            ("through", 3, 2, 1, [("all", 2, 1, 1), ("all", 2, 3, 1)]),
            ("all", 2, 1, 1, [("clear", 1, 2, 1)]),
            ("all", 2, 3, 1, [("beside", 3, 4, 1)]),
            ("through", 5, 4, 1, [("all", 4, 5, 1), ("beside", 4, 3, 1)]),
            ("clear", 1, 2, 1, []),
            ("beside", 3, 4, 1, []),
            ("all", 4, 5, 1, [("clear", 5, 4, 1)]),
            ("beside", 4, 3, 1, [("clear", 3, 2, 1)]),
            ("clear", 5, 4, 1, [("go", 4, 5, 1)]),
            ("go", 4, 5, 1, [("through", 5, 4, 2)]),
            ("clear", 3, 2, 1, [("go", 2, 1, 1), ("go", 2, 3, 1)]),
            ("through", 5, 4, 2, [("all", 4, 5, 2), ("beside", 4, 3, 2)]),
            # Ahead of its round: hand 3 hasn't heard go of round 1 yet.
            ("beside", 4, 3, 2, []),
            ("all", 4, 5, 2, [("clear", 5, 4, 2)]),
            ("clear", 5, 4, 2, []),
            ("go", 2, 3, 1, [("through", 3, 2, 2)]),
            ("go", 2, 1, 1, [("through", 1, 2, 2)]),
            ("through", 3, 2, 2, []),
            ("through", 1, 2, 2, [("all", 2, 1, 2), ("all", 2, 3, 2)]),
            # The beside that came ahead counts: it is clear at once.
            ("all", 2, 3, 2, [("beside", 3, 4, 2), ("clear", 3, 2, 2)]),
            ("beside", 3, 4, 2, [("go", 4, 5, 2)]),
            ("all", 2, 1, 2, [("clear", 1, 2, 2)]),
            ("clear", 3, 2, 2, []),
            ("clear", 1, 2, 2, [("go", 2, 1, 2), ("go", 2, 3, 2)]),
            ("go", 4, 5, 2, []),
            ("go", 2, 3, 2, []),
            ("go", 2, 1, 2, []),
        ):
            self.take(seats[other], (kind, one, other, turn, None), [letter + (None,) for letter in sent])
        self.assertEqual([seats[hand].ended() for hand in web.hands()], [2] * 5)
        self.assertEqual([seats[hand].worth(2) for hand in web.hands()], [hand + 3 for hand in web.hands()])

    def test_a_letter_may_end_a_round_and_bring_the_next_one_far(self):
        # Without words the next round is through as it begins; a beside that came ahead ends it, too.
        seat = Seat(TWO, by_neighbours(TWO), SILENT, 3, 1)
        self.assertEqual(seat.begin(), [("beside", 1, 2, 1, None)])
        self.take(seat, ("beside", 2, 1, 2, None), [])
        self.take(seat, ("beside", 2, 1, 1, None), [("beside", 1, 2, 2, None), ("beside", 1, 2, 3, None)])
        self.assertEqual((seat.ended(), seat.worth(2)), (2, 4))
        self.take(seat, ("beside", 2, 1, 3, None), [])
        self.assertEqual((seat.ended(), seat.worth(3)), (3, 7))

    def test_words_stand_ahead_of_all_else_that_a_round_brings(self):
        # Hand 2 sends in even rounds alone, and has no bridge but to 1.
        program = read_program("start me\nsend worth\nwhen less mod round 2 1 1 0\nreckon worth")
        seat = Seat(TWO, by_neighbours(TWO), program, 3, 2)
        self.assertEqual(seat.begin(), [("beside", 2, 1, 1, None)])
        self.take(seat, ("beside", 1, 2, 1, None), [("word", 2, 1, 2, 2)])
        self.take(seat, ("word", 1, 2, 2, 1), [("got", 2, 1, 2, None)])
        self.take(seat, ("got", 1, 2, 2, None), [("beside", 2, 1, 2, None)])
        self.take(seat, ("beside", 1, 2, 2, None), [("beside", 2, 1, 3, None)])

    def test_words_bear_0_and_less(self):
        program = read_program("start 0\nsend sub worth me\nwhen 1\nreckon least")
        seat = Seat(TWO, by_neighbours(TWO), program, 1, 1)
        self.assertEqual(seat.begin(), [("word", 1, 2, 1, -1)])
        self.take(seat, ("word", 2, 1, 1, 0), [("got", 1, 2, 1, None)])
        self.take(seat, ("beside", 2, 1, 1, None), [])
        self.take(seat, ("got", 2, 1, 1, None), [("beside", 1, 2, 1, None)])
        self.assertEqual((seat.heard(1), seat.worth(1)), ([(2, 0)], 0))


class Alone(unittest.TestCase):
    def test_a_hand_alone_ends_all_rounds_at_once(self):
        web = Web([7], [])
        program = read_program("start 5\nsend worth\nwhen 1\nreckon add worth add round count")
        for rounds in (0, 1, 2, 40):
            for way in (by_neighbours(web), by_tree(web), by_clusters(web, 1)):
                seat = Seat(web, way, program, rounds, 7)
                self.assertEqual((seat.ended(), seat.worth(0)), (0, 5))
                self.assertEqual(seat.begin(), [])
                self.assertEqual(seat.ended(), rounds)
                for turn in range(rounds + 1):
                    self.assertEqual(seat.worth(turn), 5 + turn * (turn + 1) // 2)
                for turn in range(1, rounds + 1):
                    self.assertEqual(seat.heard(turn), [])

    def test_a_hand_without_lines_among_others(self):
        web = Web([1, 2, 7], [(1, 2)])
        for make in (by_neighbours, by_tree):
            seat = Seat(web, make(web), GATHER, 9, 7)
            self.assertEqual(seat.begin(), [])
            self.assertEqual((seat.ended(), seat.worth(9)), (9, 7))

    def test_a_hand_with_a_neighbour_does_not(self):
        for way in (by_neighbours(TWO), by_tree(TWO), Way({1: 2, 2: None}, [])):
            for hand in (1, 2):
                seat = Seat(TWO, way, SILENT, 3, hand)
                seat.begin()
                self.assertEqual(seat.ended(), 0)


class Telling(unittest.TestCase):
    def refuse(self, tell, turn):
        with self.assertRaises(NoRound) as caught:
            tell(turn)
        self.assertIs(type(caught.exception), NoRound)
        self.assertEqual(vars(caught.exception), {})

    def check_rounds(self, seat, ended):
        self.assertEqual(seat.ended(), ended)
        for turn in list(range(-3, 0)) + list(range(ended + 1, 45)) + [10 ** 20, -10 ** 20, 10 ** 5000]:
            self.refuse(seat.worth, turn)
            self.refuse(seat.heard, turn)
        self.refuse(seat.heard, 0)
        for turn in ANYTHING:
            if not isinstance(turn, int) or isinstance(turn, bool):
                self.refuse(seat.worth, turn)
                self.refuse(seat.heard, turn)
        for turn in range(ended + 1):
            self.assertIsInstance(seat.worth(turn), int)
        for turn in range(1, ended + 1):
            self.assertIsInstance(seat.heard(turn), list)

    def test_ahead_of_the_beginning(self):
        program = read_program("start add me lines\nsend worth\nwhen 1\nreckon worth")
        web = path_web([1, 2, 3])
        for rounds in (0, 1, 40):
            seat = Seat(web, by_tree(web), program, rounds, 2)
            self.check_rounds(seat, 0)
            self.assertEqual(seat.worth(0), 4)
        seat = Seat(Web([7], []), Way({7: None}, []), program, 5, 7)
        self.check_rounds(seat, 0)

    def test_no_round_that_has_not_ended(self):
        seat = Seat(TWO, by_neighbours(TWO), GATHER, 2, 1)
        seat.begin()
        self.check_rounds(seat, 0)
        seat.take(("word", 2, 1, 1, 2))
        self.check_rounds(seat, 0)
        seat.take(("got", 2, 1, 1, None))
        self.check_rounds(seat, 0)
        seat.take(("beside", 2, 1, 1, None))
        self.check_rounds(seat, 1)
        seat.take(("word", 2, 1, 2, 3))
        self.check_rounds(seat, 1)
        seat.take(("got", 2, 1, 2, None))
        seat.take(("beside", 2, 1, 2, None))
        self.check_rounds(seat, 2)

    def test_of_0_rounds(self):
        for make in (by_neighbours, by_tree):
            for hand in (1, 2):
                seat = Seat(TWO, make(TWO), GATHER, 0, hand)
                self.assertEqual(seat.begin(), [])
                self.check_rounds(seat, 0)
                self.assertEqual(seat.worth(0), hand)

    def test_what_is_heard_is_sorted(self):
        web = Web([1, 2, 3, 50], [(1, 50), (2, 50), (3, 50)])
        seat = Seat(web, by_neighbours(web), TO_GREATER, 1, 50)
        seat.begin()
        for letter in (("word", 3, 50, 1, -5), ("word", 1, 50, 1, 9), ("word", 2, 50, 1, 9)):
            seat.take(letter)
        for other in (1, 2, 3):
            seat.take(("beside", other, 50, 1, None))
        self.assertEqual(seat.heard(1), [(1, 9), (2, 9), (3, -5)])

    def test_by_names_of_arguments(self):
        seat = Seat(web=TWO, way=by_neighbours(TWO), program=TO_GREATER, rounds=1, hand=2)
        seat.begin()
        self.assertEqual(seat.take(letter=("word", 1, 2, 1, 1)), [("got", 2, 1, 1, None)])
        seat.take(letter=("beside", 1, 2, 1, None))
        self.assertEqual((seat.worth(turn=0), seat.worth(turn=1), seat.heard(turn=1)), (2, 3, [(1, 1)]))


class AmongOthers(unittest.TestCase):
    def test_worths_and_heard_are_those_of_the_plain_run(self):
        for web, way, program, rounds, chance in some_settings(17):
            worths = plain_worths(web, program, rounds)
            heard = plain_heard(web, program, rounds)
            for choose in (lambda many: 0, lambda many: many - 1, chance.randrange):
                table = Table(web, way, program, rounds)
                while table.road:
                    self.check(table, worths, heard)
                    table.carry(choose(len(table.road)))
                self.check(table, worths, heard)
                for seat in table.seats.values():
                    self.assertEqual(seat.ended(), rounds)

    def check(self, table, worths, heard):
        for hand, seat in table.seats.items():
            ended = seat.ended()
            self.assertEqual(seat.worth(ended), worths[ended][hand])
            if ended:
                self.assertEqual(seat.heard(ended), heard[ended - 1][hand])

    def test_what_was_told_of_a_round_stays(self):
        for web, way, program, rounds, chance in some_settings(17):
            table = Table(web, way, program, rounds)
            table.carry_all(chance.randrange)
            worths = plain_worths(web, program, rounds)
            heard = plain_heard(web, program, rounds)
            for hand, seat in table.seats.items():
                self.assertEqual([seat.worth(turn) for turn in range(rounds + 1)], [each[hand] for each in worths])
                self.assertEqual([seat.heard(turn + 1) for turn in range(rounds)], [each[hand] for each in heard])

    def test_as_many_letters_as_there_are_things_to_tell(self):
        for web, way, program, rounds, chance in some_settings(17):
            table = Table(web, way, program, rounds)
            table.carry_all(chance.randrange)
            kinds = [letter[0] for letter in table.letters]
            words = sum(len(heard) for dicts in plain_heard(web, program, rounds) for heard in dicts.values())
            below = len([hand for hand in web.hands() if way.parent_of(hand) is not None])
            self.assertEqual((kinds.count("word"), kinds.count("got")), (words, words))
            for kind in ("through", "all", "clear", "go"):
                self.assertEqual(kinds.count(kind), rounds * below)
            self.assertEqual(kinds.count("beside"), rounds * 2 * len(way.all_bridges()))
            self.assertEqual(len(kinds), 2 * words + rounds * (4 * below + 2 * len(way.all_bridges())))
            self.assertEqual(len(set(table.letters)), len(table.letters))

    def test_the_form_of_letters(self):
        for web, way, program, rounds, chance in some_settings(17):
            table = Table(web, way, program, rounds)
            table.carry_all(chance.randrange)
            for letter in table.letters:
                self.assertIsInstance(letter, tuple)
                self.assertEqual(len(letter), 5)
                self.assertIs(web.has_line(letter[1], letter[2]), True)
                self.assertIn(letter[3], range(1, rounds + 1))
                self.assertEqual(letter[4] is None, letter[0] != "word")

    def test_letter_by_letter_as_the_rules_say(self):
        ahead = {}
        for web, way, program, rounds, chance in some_settings(17):
            table = Table(web, way, program, rounds)
            other = Table(web, way, program, rounds, Reference)
            self.assertEqual(table.road, other.road)
            while table.road:
                at = chance.randrange(len(table.road))
                kind, sender, hand, turn, number = table.road[at]
                if turn > table.seats[hand].ended() + 1:
                    ahead[kind] = ahead.get(kind, 0) + 1
                self.assertEqual(table.carry(at), other.carry(at))
            self.assertEqual(other.road, [])
        # Of the kinds that may come ahead both did, so that these runs looked at it.
        self.assertEqual(sorted(ahead), ["beside", "word"])

    def test_twelve_hands_and_forty_rounds(self):
        hands = list(range(12))
        web = Web(hands, [(one, other) for one in hands for other in hands if one < other])
        chance = random.Random(40)
        for way in (by_neighbours(web), by_tree(web)):
            table = Table(web, way, GATHER, 40)
            table.carry_all(chance.randrange)
            worths = plain_worths(web, GATHER, 40)
            for hand, seat in table.seats.items():
                self.assertEqual((seat.ended(), seat.worth(40)), (40, worths[40][hand]))


class NothingKept(unittest.TestCase):
    def test_each_list_told_is_a_new_one(self):
        table = Table(TWO, by_neighbours(TWO), GATHER, 3)
        table.carry_all(lambda many: 0)
        seat = table.seats[1]
        for turn in (1, 2, 3):
            before = copy.deepcopy(seat.heard(turn))
            seat.heard(turn).clear()
            seat.heard(turn).append("more")
            self.assertEqual(seat.heard(turn), before)
            self.assertEqual(len(before), 1)

    def test_letters_told_are_a_new_list(self):
        for make, kinds in ((by_neighbours, ["beside"]), (by_tree, ["all", "go"])):
            seat = Seat(TWO, make(TWO), GATHER, 2, 2)
            same = Seat(TWO, make(TWO), GATHER, 2, 2)
            seat.begin().clear()
            same.begin()
            letters = [("word", 1, 2, 1, 1)] + [(kind, 1, 2, 1, None) for kind in ["got"] + kinds]
            for letter in letters:
                told = seat.take(letter)
                self.assertEqual(told, same.take(letter))
                told.append("more")
            self.assertEqual((seat.ended(), same.ended()), (1, 1))

    def test_what_is_handed_in_stays(self):
        web = path_web([1, 2, 3])
        way = Way({1: None, 2: 1, 3: None}, [(2, 3)])
        letter = ("word", 1, 2, 1, 1)
        seat = Seat(web, way, GATHER, 2, 2)
        seat.begin()
        seat.take(letter)
        self.assertEqual(letter, ("word", 1, 2, 1, 1))
        self.assertEqual((web.hands(), web.lines()), ([1, 2, 3], [(1, 2), (2, 3)]))
        self.assertEqual((way.all_parents(), way.all_bridges()), ({1: None, 2: 1, 3: None}, [(2, 3)]))

    def test_seats_share_nothing(self):
        web = path_web([1, 2, 3])
        one = Seat(web, by_neighbours(web), SILENT, 2, 2)
        other = Seat(web, by_neighbours(web), SILENT, 2, 2)
        one.begin()
        other.begin()
        one.take(("beside", 1, 2, 1, None))
        one.take(("beside", 3, 2, 1, None))
        self.assertEqual((one.ended(), other.ended()), (1, 0))
        other.take(("beside", 3, 2, 1, None))
        self.assertEqual(other.ended(), 0)

    def test_what_is_refused_changes_nothing(self):
        seat = Seat(TWO, by_neighbours(TWO), SILENT, 2, 1)
        seat.begin()
        for turn in (-1, 1, None, [], True):
            for tell in (seat.worth, seat.heard):
                with self.assertRaises(NoRound):
                    tell(turn)
        self.assertEqual(seat.take(("beside", 2, 1, 1, None)), [("beside", 1, 2, 2, None)])
        self.assertEqual((seat.ended(), seat.worth(0), seat.worth(1), seat.heard(1)), (1, 1, 2, []))


if __name__ == "__main__":
    unittest.main()
