"""Times: when each hand ends each round, where each letter takes as long as is told."""

from beatless.halls import Hall
from beatless.wholes import is_whole


def names_letter(key):
    if not isinstance(key, tuple) or len(key) != 4 or not isinstance(key[0], str):
        return False
    return is_whole(key[1]) and is_whole(key[2]) and is_whole(key[3])


def told_lates(lates):
    # True equals 1, so that a key that names no letter might be found where a letter is looked up.
    return dict([(key, late) for key, late in lates.items() if names_letter(key)])


def note_ends(found, hall, hand, now):
    for turn in range(1, hall.ended(hand) + 1):
        found.setdefault((hand, turn), now)


def ends(web, way, program, rounds, lates, rest):
    hall = Hall(web, way, program, rounds)
    late_by_name = told_lates(lates)
    found = {}
    for hand in web.hands():
        note_ends(found, hall, hand, 0)
    # For each letter on the road, in the road's order, when it comes.
    comes = [late_by_name.get(letter[:4], rest) for letter in hall.road()]
    while comes:
        now = min(comes)
        number = comes.index(now)
        comes.pop(number)
        hand = hall.road()[number][2]
        hall.carry(number)
        note_ends(found, hall, hand, now)
        for letter in hall.road()[len(comes):]:
            comes.append(now + late_by_name.get(letter[:4], rest))
    return found


def latest(web, way, program, rounds, most):
    return ends(web, way, program, rounds, {}, most)
