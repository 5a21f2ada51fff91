"""Plain runs, of one web and by pieces (points 10 and 11)."""

import copy
import random
import unittest

from beatless.plain import heard_by_pieces, plain_heard, plain_worths, worths_by_pieces
from beatless.programs import read_program
from beatless.webs import Web
from samples import PROGRAMS, path_web, programs, some_webs

WEB = path_web([1, 2, 5])
TO_GREATER = read_program("start me\nsend worth\nwhen less me to 1 0\nreckon add worth add sum round")
GATHER = read_program("start add me lines\nsend worth\nwhen 1\nreckon add add worth sum add round lines")


def run_in_pythons_words(pieces, start, send, when, reckon):
    """Another way to the run: letters are asked for by who hears, not by who sends."""
    first = pieces[0][0]
    last = {hand: start(hand, len(first.neighbours(hand))) for hand in first.hands()}
    worths = [dict(last)]
    heard = []
    for web in [web for web, rounds in pieces for step in range(rounds)]:
        turn = len(worths)
        lines = {hand: len(web.neighbours(hand)) for hand in web.hands()}
        came = {}
        for me in web.hands():
            came[me] = sorted(
                (other, send(last[other], other, turn, lines[other], me)) for other in web.neighbours(me)
                if when(last[other], other, turn, lines[other], me) > 0
            )
        heard.append(came)
        worths.append({
            me: reckon(last[me], me, turn, lines[me], [number for other, number in came[me]]) for me in web.hands()
        })
        last = {**last, **worths[-1]}
    return worths, heard


class OfOneWeb(unittest.TestCase):
    def test_round_by_round(self):
        self.assertEqual(plain_worths(WEB, TO_GREATER, 2), [{1: 1, 2: 2, 5: 5}, {1: 2, 2: 4, 5: 8}, {1: 4, 2: 8, 5: 14}])
        self.assertEqual(plain_heard(WEB, TO_GREATER, 2), [
            {1: [], 2: [(1, 1)], 5: [(2, 2)]},
            {1: [], 2: [(1, 2)], 5: [(2, 4)]},
        ])

    def test_of_0_rounds(self):
        self.assertEqual(plain_worths(WEB, TO_GREATER, 0), [{1: 1, 2: 2, 5: 5}])
        self.assertEqual(plain_heard(WEB, TO_GREATER, 0), [])

    def test_of_1_round(self):
        self.assertEqual(plain_worths(WEB, TO_GREATER, 1), [{1: 1, 2: 2, 5: 5}, {1: 2, 2: 4, 5: 8}])
        self.assertEqual(plain_heard(WEB, TO_GREATER, 1), [{1: [], 2: [(1, 1)], 5: [(2, 2)]}])

    def test_a_letter_is_sent_just_where_when_is_above_0(self):
        for when, sent in (("-1", []), ("0", []), ("1", [(1, 1)]), ("-99999999999999999999", []), ("7", [(1, 1)])):
            program = read_program(f"start me\nsend worth\nwhen {when}\nreckon worth")
            self.assertEqual(plain_heard(Web([1, 2], [(1, 2)]), program, 1)[0][2], sent)

    def test_a_letter_may_bear_0_and_less(self):
        program = read_program("start 0\nsend sub worth to\nwhen 1\nreckon count")
        self.assertEqual(plain_heard(Web([0, 1], [(0, 1)]), program, 2), [
            {0: [(1, 0)], 1: [(0, -1)]},
            {0: [(1, 1)], 1: [(0, 0)]},
        ])

    def test_what_is_sent_hangs_on_the_worth_of_the_round_ahead(self):
        program = read_program("start me\nsend worth\nwhen less 1 round 1 0\nreckon add worth sum")
        self.assertEqual(plain_worths(path_web([1, 2, 3]), program, 2), [
            {1: 1, 2: 2, 3: 3}, {1: 1, 2: 2, 3: 3}, {1: 3, 2: 6, 3: 5},
        ])

    def test_neighbours_are_heard_rising(self):
        web = Web([3, 4, 7, 50, 99], [(4, 50), (50, 99), (7, 50), (3, 50)])
        program = read_program("start sub 0 me\nsend worth\nwhen 1\nreckon worth")
        self.assertEqual(plain_heard(web, program, 1)[0][50], [(3, -3), (4, -4), (7, -7), (99, -99)])

    def test_a_hand_alone_hears_nothing(self):
        program = read_program("start 7\nsend worth\nwhen 1\nreckon add add worth count add least most")
        self.assertEqual(plain_worths(Web([9], []), program, 3), [{9: 7}] * 4)
        self.assertEqual(plain_heard(Web([9], []), program, 3), [{9: []}] * 3)

    def test_many_webs_programs_and_rounds(self):
        for turn, (hands, lines) in enumerate(some_webs()):
            web = Web(hands, lines)
            rounds = (0, 1, 2, 5, 9)[turn % 5]
            for sample, program in zip(PROGRAMS, programs()):
                worths, heard = run_in_pythons_words([(web, rounds)], *sample[1:])
                self.assertEqual(plain_worths(web, program, rounds), worths)
                self.assertEqual(plain_heard(web, program, rounds), heard)

    def test_12_hands_and_40_rounds(self):
        hands = list(range(88, 100))
        web = Web(hands, [(one, other) for one in hands for other in hands if one < other])
        for sample, program in zip(PROGRAMS, programs()):
            worths, heard = run_in_pythons_words([(web, 40)], *sample[1:])
            self.assertEqual(plain_worths(web, program, 40), worths)
            self.assertEqual(plain_heard(web, program, 40), heard)
        # Worths come as long as they come: each round makes 12 of the sum of all.
        self.assertEqual(plain_worths(web, programs()[0], 40)[40][88], sum(hands) * 12 ** 39)

    def test_by_names_of_arguments(self):
        self.assertEqual(plain_worths(web=WEB, program=TO_GREATER, rounds=0), [{1: 1, 2: 2, 5: 5}])
        self.assertEqual(plain_heard(web=WEB, program=TO_GREATER, rounds=0), [])
        self.assertEqual(worths_by_pieces(pieces=[(WEB, 0)], program=TO_GREATER), [{1: 1, 2: 2, 5: 5}])
        self.assertEqual(heard_by_pieces(pieces=[(WEB, 0)], program=TO_GREATER), [])


class ByPieces(unittest.TestCase):
    def check(self, pieces, program, worths, heard):
        self.assertEqual(worths_by_pieces(pieces, program), worths)
        self.assertEqual(heard_by_pieces(pieces, program), heard)

    def test_one_piece_is_the_plain_run(self):
        for rounds in range(4):
            self.check([(WEB, rounds)], GATHER, plain_worths(WEB, GATHER, rounds), plain_heard(WEB, GATHER, rounds))

    def test_a_hand_goes_and_comes_back(self):
        pieces = [
            (path_web([1, 2, 3]), 1),
            (Web([1, 3], [(1, 3)]), 2),
            (Web([2, 3], [(2, 3)]), 0),
            (Web([1, 2, 3], [(1, 2), (1, 3)]), 1),
        ]
        worths = [
            {1: 2, 2: 4, 3: 4},
            {1: 8, 2: 13, 3: 10},
            {1: 21, 3: 21},
            {1: 46, 3: 46},
            {1: 111, 2: 64, 3: 97},
        ]
        heard = [
            {1: [(2, 4)], 2: [(1, 2), (3, 4)], 3: [(2, 4)]},
            {1: [(3, 10)], 3: [(1, 8)]},
            {1: [(3, 21)], 3: [(1, 21)]},
            {1: [(2, 13), (3, 46)], 2: [(1, 46)], 3: [(1, 46)]},
        ]
        self.check(pieces, GATHER, worths, heard)

    def test_a_hand_that_is_away_at_once_goes_on_from_start(self):
        pieces = [(path_web([1, 2, 3]), 0), (Web([3], []), 2), (Web([1, 2], []), 1)]
        worths = [{1: 2, 2: 4, 3: 4}, {3: 5}, {3: 7}, {1: 5, 2: 7}]
        self.check(pieces, GATHER, worths, [{3: []}, {3: []}, {1: [], 2: []}])

    def test_starts_lines_are_those_of_the_first_web(self):
        lines = read_program("start lines\nsend 0\nwhen 0\nreckon add worth mod lines 100")
        first = path_web([1, 2, 3])
        bare = Web([1, 2, 3], [])
        self.check([(first, 0), (bare, 0)], lines, [{1: 1, 2: 2, 3: 1}], [])
        self.assertEqual(worths_by_pieces([(first, 0), (bare, 1)], lines), [{1: 1, 2: 2, 3: 1}] * 2)
        self.assertEqual(worths_by_pieces([(bare, 0), (first, 1)], lines), [{1: 0, 2: 0, 3: 0}, {1: 1, 2: 2, 3: 1}])

    def test_rounds_are_numbered_on(self):
        program = read_program("start 0\nsend round\nwhen 1\nreckon add worth round")
        web = Web([1, 2], [(1, 2)])
        for pieces in ([(web, 4)], [(web, 1), (web, 3)], [(web, 0), (web, 2), (web, 0), (web, 2)], [(web, 1)] * 4):
            self.assertEqual([dicts[1] for dicts in worths_by_pieces(pieces, program)], [0, 1, 3, 6, 10])
            self.assertEqual([dicts[1] for dicts in heard_by_pieces(pieces, program)], [[(2, turn)] for turn in (1, 2, 3, 4)])

    def test_pieces_without_rounds(self):
        few = Web([2], [])
        for many in range(3):
            pieces = [(few, 0)] * many
            self.check(
                [(WEB, 0)] + pieces + [(WEB, 2)] + pieces, TO_GREATER,
                plain_worths(WEB, TO_GREATER, 2), plain_heard(WEB, TO_GREATER, 2),
            )
            self.check([(WEB, 0)] + pieces, TO_GREATER, [{1: 1, 2: 2, 5: 5}], [])

    def test_the_lines_of_a_rounds_own_web_count(self):
        program = read_program("start 0\nsend lines\nwhen lines\nreckon add mod lines 10 add sum sum")
        pieces = [(path_web([1, 2, 3]), 1), (Web([1, 2, 3], [(1, 3)]), 1), (Web([2], []), 1)]
        self.check(
            pieces, program,
            [{1: 0, 2: 0, 3: 0}, {1: 5, 2: 6, 3: 5}, {1: 3, 2: 0, 3: 3}, {2: 0}],
            [{1: [(2, 2)], 2: [(1, 1), (3, 1)], 3: [(2, 2)]}, {1: [(3, 1)], 2: [], 3: [(1, 1)]}, {2: []}],
        )

    def test_many_pieces(self):
        chance = random.Random(11)
        for hands, lines in some_webs():
            pieces = [(Web(hands, lines), chance.randrange(4))]
            for step in range(chance.randrange(6)):
                some = sorted(chance.sample(hands, chance.randint(1, len(hands))))
                any_lines = [(one, other) for one in some for other in some if one < other and chance.randrange(2)]
                pieces.append((Web(some, any_lines), chance.randrange(4)))
            for sample, program in zip(PROGRAMS, programs()):
                worths, heard = run_in_pythons_words(pieces, *sample[1:])
                self.check(pieces, program, worths, heard)


class NothingKept(unittest.TestCase):
    def test_what_is_handed_in_stays(self):
        web = path_web([1, 2, 5])
        pieces = [(web, 1), (web, 0), (Web([1], []), 1)]
        before = list(pieces)
        worths_by_pieces(pieces, GATHER)
        heard_by_pieces(pieces, GATHER)
        self.assertEqual(pieces, before)
        self.assertEqual((web.hands(), web.lines()), ([1, 2, 5], [(1, 2), (2, 5)]))

    def test_what_is_told_is_new_each_time(self):
        pieces = [(WEB, 1), (WEB, 1)]
        for tell in (
            lambda: plain_worths(WEB, GATHER, 2), lambda: plain_heard(WEB, GATHER, 2),
            lambda: worths_by_pieces(pieces, GATHER), lambda: heard_by_pieces(pieces, GATHER),
        ):
            told = tell()
            before = copy.deepcopy(told)
            for dicts in told:
                for hand in list(dicts):
                    if isinstance(dicts[hand], list):
                        dicts[hand].append("more")
                dicts.clear()
            told.append("more")
            self.assertEqual(tell(), before)

    def test_the_lists_and_dicts_of_one_telling_are_unlike_ones(self):
        web = Web([1, 2], [])
        program = read_program("start 1\nsend 1\nwhen 0\nreckon 1")
        worths = plain_worths(web, program, 3)
        self.assertEqual(len({id(dicts) for dicts in worths}), 4)
        heard = plain_heard(web, program, 3)
        self.assertEqual(len({id(dicts) for dicts in heard}), 3)
        self.assertEqual(len({id(dicts[hand]) for dicts in heard for hand in (1, 2)}), 6)


if __name__ == "__main__":
    unittest.main()
