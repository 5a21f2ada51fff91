"""All orders: halls at worlds, all worlds, closed lists (points 28 to 30)."""

import copy
import itertools
import random
import unittest

from beatless.errors import NoWay, NoWorld
from beatless.halls import Hall
from beatless.programs import read_program
from beatless.ways import Way, by_clusters, by_neighbours, by_tree
from beatless.webs import Web
from beatless.worlds import hall_at, is_closed, worlds
from samples import ANYTHING, Refusing, all_lines, path_web, some_settings, stand_of, unlet_ways

GATHER = read_program("start me\nsend worth\nwhen 1\nreckon add worth sum")
SILENT = read_program("start me\nsend worth\nwhen 0\nreckon add worth round")
TO_GREATER = read_program("start me\nsend worth\nwhen less me to 1 0\nreckon add worth sum")
TWO = Web([1, 2], [(1, 2)])
PATH = path_web([1, 2, 3])
ALONE = Web([5], [])
CHAIN = [
    ("through", 2, 1, 1, None), ("all", 1, 2, 1, None), ("clear", 2, 1, 1, None), ("go", 1, 2, 1, None),
]


def small_settings():
    """Settings with at most some hundred worlds."""
    yield TWO, by_tree(TWO), SILENT, 2
    yield TWO, by_tree(TWO), TO_GREATER, 2
    yield TWO, by_tree(TWO), GATHER, 2
    yield TWO, by_neighbours(TWO), SILENT, 3
    yield TWO, by_neighbours(TWO), GATHER, 1
    yield TWO, by_neighbours(TWO), GATHER, 2
    yield TWO, by_neighbours(TWO), TO_GREATER, 2
    yield PATH, by_tree(PATH), SILENT, 2
    yield PATH, by_neighbours(PATH), SILENT, 2
    yield PATH, by_clusters(PATH, 1), SILENT, 2
    yield PATH, Way({1: 2, 2: None, 3: 2}, []), SILENT, 2
    yield PATH, by_tree(PATH), TO_GREATER, 1
    yield Web([1, 2, 3], []), by_tree(Web([1, 2, 3], [])), GATHER, 3
    yield Web([1, 2, 7], [(1, 2)]), by_neighbours(Web([1, 2, 7], [(1, 2)])), TO_GREATER, 1
    yield ALONE, by_tree(ALONE), GATHER, 40
    yield TWO, by_tree(TWO), GATHER, 0


def hall_behind(setting, letters):
    """A hall at which these letters were carried, one after the other."""
    hall = Hall(*setting)
    for letter in letters:
        hall.carry(hall.road().index(letter))
    return hall


def all_worlds(setting):
    """By trying each letter at each world: from the world to a row in which its letters can be carried."""
    found = {(): ()}
    left = [()]
    while left:
        row = left.pop()
        for letter in hall_behind(setting, row).road():
            world = tuple(sorted(row + (letter,)))
            if world not in found:
                found[world] = row + (letter,)
                left.append(row + (letter,))
    return found


def plain_stand(hall):
    """What a hall tells, whatever the order of the road."""
    stand = stand_of(hall)
    return (sorted(stand[0]),) + stand[1:]


class HallAt(Refusing):
    def test_letter_by_letter(self):
        setting = (TWO, by_tree(TWO), SILENT, 1)
        for many in range(5):
            hall = hall_at(*setting, tuple(sorted(CHAIN[:many])))
            self.assertEqual(hall.road(), CHAIN[many:many + 1])
            self.assertEqual([hall.ended(1), hall.ended(2)], [int(many > 2), int(many > 3)])
            self.assertIs(hall.done(), many == 4)
            self.assertIs(hall.web_now(), TWO)
            self.assertIs(hall.way_now(), setting[1])

    def test_the_hall_goes_on(self):
        hall = hall_at(TWO, by_tree(TWO), GATHER, 2, (("word", 1, 2, 1, 1),))
        self.assertEqual(sorted(hall.road(), key=str), [("got", 2, 1, 1, None), ("word", 2, 1, 1, 2)])
        while hall.road():
            hall.carry(0)
        self.assertEqual((hall.done(), hall.worth(1, 2), hall.pieces()), (True, 6, [(TWO, 2)]))

    def test_stands_alike_in_whatever_order(self):
        for setting in small_settings():
            for world, row in all_worlds(setting).items():
                self.assertEqual(plain_stand(hall_at(*setting, world)), plain_stand(hall_behind(setting, row)))

    def test_stands_alike_over_many_webs(self):
        for web, way, program, rounds, chance in some_settings(28):
            setting = (web, way, program, rounds)
            hall = Hall(*setting)
            taken = []
            for letter in range(chance.randint(0, 300)):
                if hall.road():
                    number = chance.randrange(len(hall.road()))
                    taken.append(hall.road()[number])
                    hall.carry(number)
            self.assertEqual(plain_stand(hall_at(*setting, tuple(sorted(taken)))), plain_stand(hall))
            if taken:
                # One of them lacks: just where none of the others waits for it the world can be come to.
                self.check_without(setting, taken, chance.randrange(len(taken)))

    def check_without(self, setting, taken, number):
        rest = taken[:number] + taken[number + 1:]
        left = list(rest)
        hall = Hall(*setting)
        while any(letter in left for letter in hall.road()):
            letter = [each for each in hall.road() if each in left][0]
            left.remove(letter)
            hall.carry(hall.road().index(letter))
        if left:
            self.refuse(NoWorld, hall_at, *setting, tuple(sorted(rest)))
        else:
            self.assertEqual(plain_stand(hall_at(*setting, tuple(sorted(rest)))), plain_stand(hall))

    def test_no_world_of_anything(self):
        for world in ANYTHING:
            if world != ():
                self.refuse(NoWorld, hall_at, TWO, by_tree(TWO), GATHER, 1, world)
        for letter in ANYTHING:
            self.refuse(NoWorld, hall_at, TWO, by_tree(TWO), GATHER, 1, (letter,))
            self.refuse(NoWorld, hall_at, TWO, by_tree(TWO), GATHER, 1, (("word", 1, 2, 1, 1), letter))
        for value in ANYTHING:
            for place in range(5):
                letter = ["word", 1, 2, 1, 1]
                letter[place] = value
                if type(value) is not int or tuple(letter) != ("word", 1, 2, 1, 1):
                    self.refuse(NoWorld, hall_at, TWO, by_tree(TWO), GATHER, 1, (tuple(letter),))

    def test_no_world_of_other_letters(self):
        word = ("word", 1, 2, 1, 1)
        self.assertEqual(hall_at(TWO, by_tree(TWO), GATHER, 2, (word,)).sent("got", 1), 1)
        for world in (
            [word], (list(word),), (word, word), (word + (None,),), (word[:4],), ("word", 1, 2, 1, 1), ((word,),),
            (("word", True, 2, 1, 1),), (("word", 1, 2, True, 1),), (("word", 1, 2, 1, True),),
            (("word", 1.0, 2, 1, 1),), (("word", 1, 2, 1, 1.0),), (("word", 1, 2, 1, 2),), (("word", 1, 2, 1, None),), (("word", 1, 2, 2, 1),),
            (("got", 2, 1, 1, None),), (("word", 2, 1, 1, 1),), (("word", 1, 3, 1, 1),), (("Word", 1, 2, 1, 1),),
            (("through", 2, 1, 1, None),), (("word", 1, 2, 1, 1), ("word", 1, 2, 1, None)),
            (("word", 1, 2, 1, None), ("word", 1, 2, 1, 1)), (("word", 1, 2, 1, 1), ("word", 1, 2, 1, 3)),
        ):
            self.refuse(NoWorld, hall_at, TWO, by_tree(TWO), GATHER, 2, world)

    def test_no_world_that_is_not_sorted(self):
        words = (("word", 1, 2, 1, 1), ("word", 2, 1, 1, 2))
        got = ("got", 2, 1, 1, None)
        way = by_tree(TWO)
        self.assertEqual(hall_at(TWO, way, GATHER, 2, words).sent("got", 1), 2)
        self.assertEqual(hall_at(TWO, way, GATHER, 2, (got,) + words).sent("got", 1), 2)
        self.refuse(NoWorld, hall_at, TWO, way, GATHER, 2, words[::-1])
        for world in itertools.permutations((got,) + words):
            if world != (got,) + words:
                self.refuse(NoWorld, hall_at, TWO, way, GATHER, 2, world)

    def test_no_world_that_can_not_be_come_to(self):
        for many in range(1, 5):
            for letters in itertools.combinations(CHAIN, many):
                world = tuple(sorted(letters))
                if list(letters) == CHAIN[:many]:
                    hall_at(TWO, by_tree(TWO), SILENT, 1, world)
                else:
                    self.refuse(NoWorld, hall_at, TWO, by_tree(TWO), SILENT, 1, world)

    def test_just_those_that_can_be_come_to(self):
        # Each set of the letters that are ever sent in a setting.
        setting = (TWO, by_neighbours(TWO), TO_GREATER, 1)
        known = all_worlds(setting)
        letters = sorted(max(known, key=len))
        self.assertEqual(len(letters), 4)
        for many in range(5):
            for world in itertools.combinations(letters, many):
                if world in known:
                    hall_at(*setting, world)
                else:
                    self.refuse(NoWorld, hall_at, *setting, world)

    def test_0_rounds(self):
        hall = hall_at(TWO, by_tree(TWO), GATHER, 0, ())
        self.assertEqual((hall.road(), hall.done()), ([], True))
        self.refuse(NoWorld, hall_at, TWO, by_tree(TWO), GATHER, 0, (("word", 1, 2, 1, 1),))

    def test_a_new_hall_each_time(self):
        one = hall_at(TWO, by_tree(TWO), GATHER, 1, ())
        one.carry(0)
        one.fall(1)
        other = hall_at(TWO, by_tree(TWO), GATHER, 1, ())
        self.assertEqual(len(other.road()), 2)
        other.fall(1)


class AllWorlds(Refusing):
    def test_a_chain(self):
        told = worlds(TWO, by_tree(TWO), SILENT, 1, 5)
        self.assertEqual(told[0], "worlds")
        self.assertEqual(sorted(told[1]), sorted(tuple(sorted(CHAIN[:many])) for many in range(5)))
        self.assertIs(type(told), tuple)
        self.assertIs(type(told[1]), list)
        self.assertEqual(worlds(TWO, by_tree(TWO), SILENT, 1, 4), ("more",))

    def test_all_and_each_once(self):
        for setting in small_settings():
            known = sorted(all_worlds(setting))
            told = worlds(*setting, 2000)
            self.assertEqual(told[0], "worlds")
            self.assertEqual(sorted(told[1]), known)
            self.assertIn((), told[1])

    def test_at_most_so_many(self):
        for setting in small_settings():
            many = len(worlds(*setting, 2000)[1])
            self.assertEqual(len(worlds(*setting, many)[1]), many)
            for most in {1, 2, many - 1, many // 2}:
                if 1 <= most < many:
                    self.assertEqual(worlds(*setting, most), ("more",))

    def test_one_world(self):
        for setting in ((TWO, by_tree(TWO), GATHER, 0), (ALONE, by_tree(ALONE), GATHER, 40)):
            for most in (1, 2, 2000):
                self.assertEqual(worlds(*setting, most), ("worlds", [()]))
        self.assertEqual(worlds(TWO, by_tree(TWO), GATHER, 1, 1), ("more",))

    def test_what_is_told_is_new(self):
        setting = (TWO, by_tree(TWO), SILENT, 1, 2000)
        worlds(*setting)[1].clear()
        self.assertEqual(len(worlds(*setting)[1]), 5)

    def test_no_way(self):
        for web, way in unlet_ways():
            for rounds in (0, 2):
                # Also where the other things are no world and no list.
                for world in ((), None, (1,), (("word", 1, 2, 1, 1),)):
                    self.refuse(NoWay, hall_at, web, way, GATHER, rounds, world)
                self.refuse(NoWay, worlds, web, way, GATHER, rounds, 1)
                for found in ([()], [], None, [[]], 5):
                    self.refuse(NoWay, is_closed, web, way, GATHER, rounds, found)

    def test_by_names_of_arguments(self):
        way = by_tree(TWO)
        told = worlds(most=5, rounds=1, program=SILENT, way=way, web=TWO)
        self.assertEqual(len(told[1]), 5)
        self.assertIs(is_closed(found=told[1], rounds=1, program=SILENT, way=way, web=TWO), True)
        self.assertEqual(hall_at(world=(), rounds=1, program=SILENT, way=way, web=TWO).road(), CHAIN[:1])

    def test_far_beyond_the_most(self):
        web = Web(list(range(12)), all_lines(range(12)))
        for make in (by_neighbours, by_tree):
            for program in (GATHER, SILENT):
                self.assertEqual(worlds(web, make(web), program, 40, 2000), ("more",))

    def test_long_worlds(self):
        # One letter on the road at a time: 44 a round, 40 rounds.
        web = path_web(list(range(12)))
        setting = (web, by_tree(web), SILENT, 40)
        told = worlds(*setting, 2000)
        self.assertEqual((told[0], len(told[1])), ("worlds", 1761))
        self.assertEqual(sorted(len(world) for world in told[1]), list(range(1761)))
        self.assertIs(is_closed(*setting, told[1]), True)
        self.assertIs(is_closed(*setting, told[1][:-1]), False)
        self.assertIs(hall_at(*setting, max(told[1], key=len)).done(), True)


class Closed(Refusing):
    def test_all_worlds_are_closed_in_any_order(self):
        chance = random.Random(30)
        for setting in small_settings():
            found = list(all_worlds(setting))
            for order in (found, found[::-1], chance.sample(found, len(found))):
                self.assertIs(is_closed(*setting, order), True)
            # A world twice does no harm.
            self.assertIs(is_closed(*setting, found + found), True)
            self.assertIs(is_closed(*setting, found + [()]), True)

    def test_one_left_out(self):
        for setting in small_settings():
            found = sorted(all_worlds(setting))
            for number in range(len(found)):
                self.assertIs(is_closed(*setting, found[:number] + found[number + 1:]), False)

    def test_one_in_anothers_place(self):
        setting = (TWO, by_tree(TWO), SILENT, 1)
        found = sorted(all_worlds(setting))
        other = (("through", 2, 1, 2, None),)
        for number in range(len(found)):
            self.assertIs(is_closed(*setting, found[:number] + [other] + found[number + 1:]), False)
            self.assertIs(is_closed(*setting, found[:number] + [found[0]] + found[number + 1:]), number == 0)

    def test_one_put_in(self):
        setting = (TWO, by_tree(TWO), GATHER, 1)
        found = sorted(all_worlds(setting))
        self.assertIs(is_closed(*setting, found), True)
        word = ("word", 1, 2, 1, 1)
        self.assertIn((word,), found)
        longest = max(found, key=len)
        for world in [
            (word, word), (("word", 1, 2, 1, 2),), (("go", 1, 2, 1, None),), longest[::-1], longest[1:], longest[:-1],
            longest + (("word", 1, 2, 2, 3),), (("word", True, 2, 1, 1),), (("word", 1, 2, 1, True),), (list(word),),
            [word], (("word", 1.0, 2, 1, 1),), list(longest), (("word", 1, 2, 1, None),), [], [()], word, ((),),
        ]:
            for place in (0, 3, len(found)):
                self.assertIs(is_closed(*setting, found[:place] + [world] + found[place:]), False)

    def test_a_truth_in_the_place_of_a_number(self):
        setting = (TWO, by_tree(TWO), GATHER, 1)
        found = sorted(all_worlds(setting))
        for number, world in enumerate(found):
            for at, letter in enumerate(world):
                for place, value in enumerate(letter):
                    if value == 1:
                        other = letter[:place] + (True,) + letter[place + 1:]
                        wrong = world[:at] + (other,) + world[at + 1:]
                        self.assertEqual(wrong, world)
                        # Also where the world itself stands in the list, ahead of it or behind.
                        for found_now in (
                            found[:number] + [wrong] + found[number + 1:], found + [wrong], [wrong] + found,
                        ):
                            self.assertIs(is_closed(*setting, found_now), False)

    def test_of_anything(self):
        setting = (TWO, by_tree(TWO), GATHER, 1)
        found = sorted(all_worlds(setting))
        for value in ANYTHING + [tuple(found), dict.fromkeys(found), set(found), iter(found)]:
            self.assertIs(is_closed(*setting, value), False)
        for value in ANYTHING:
            if value != ():
                self.assertIs(is_closed(*setting, found + [value]), False)
                self.assertIs(is_closed(*setting, [value] + found), False)
            self.assertIs(is_closed(*setting, found + [(value,)]), False)

    def test_of_0_rounds_the_empty_world_alone(self):
        setting = (TWO, by_tree(TWO), GATHER, 0)
        for found in ([()], [(), ()]):
            self.assertIs(is_closed(*setting, found), True)
        for found in ([], [(), (1,)], [[]], ((),)):
            self.assertIs(is_closed(*setting, found), False)
        self.assertIs(is_closed(TWO, by_tree(TWO), GATHER, 1, [()]), False)

    def test_a_list_of_another_setting(self):
        one = (TWO, by_tree(TWO), GATHER, 1)
        for other in (
            (TWO, by_neighbours(TWO), GATHER, 1), (TWO, by_tree(TWO), GATHER, 2), (TWO, by_tree(TWO), TO_GREATER, 1),
            (TWO, Way({1: 2, 2: None}, []), GATHER, 1), (TWO, by_tree(TWO), GATHER, 0),
        ):
            for setting, found in ((one, other), (other, one)):
                self.assertIs(is_closed(*setting, worlds(*found, 2000)[1]), False)

    def test_nothing_handed_in_is_changed(self):
        setting = (TWO, by_tree(TWO), GATHER, 1)
        found = list(all_worlds(setting))
        ahead = copy.deepcopy(found)
        self.assertIs(is_closed(*setting, found), True)
        self.assertIs(is_closed(*setting, found), True)
        self.assertEqual(found, ahead)


if __name__ == "__main__":
    unittest.main()
