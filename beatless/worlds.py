"""Worlds: all orders in which letters can be carried, by the letters that hands have taken."""

from beatless.errors import NoWorld
from beatless.halls import Hall
from beatless.wholes import is_whole


def is_letter(value):
    if not isinstance(value, tuple) or len(value) != 5 or not isinstance(value[0], str):
        return False
    if not is_whole(value[1]) or not is_whole(value[2]) or not is_whole(value[3]):
        return False
    return value[4] is None or is_whole(value[4])


def are_letters(world):
    if not isinstance(world, tuple):
        return False
    for letter in world:
        if not is_letter(letter):
            return False
    return True


def carry_those(hall, wanted):
    # A letter stays on the road till it is carried, and no other one takes it off: it is enough to walk the road once.
    carried = []
    at = 0
    while at < len(hall.road()):
        letter = hall.road()[at]
        if letter in wanted:
            hall.carry(at)
            carried.append(letter)
        else:
            at += 1
    return carried


def hall_at(web, way, program, rounds, world):
    hall = Hall(web, way, program, rounds)
    if not are_letters(world):
        raise NoWorld("a world is a tuple of letters")
    wanted = dict([(letter, True) for letter in world])
    # Letters that were carried can be sorted; those that are handed in perhaps can't.
    if tuple(sorted(carry_those(hall, wanted))) != world:
        raise NoWorld("the world can't be come to")
    return hall


def first_stand(web, way, program, rounds):
    # A stand is the seats, by hand, and the letters on the road; neither is changed, so that stands may share seats.
    hall = Hall(web, way, program, rounds)
    return (hall.seats, hall.road())


def stand_behind(stand, letter):
    seats = dict(stand[0])
    seat = seats[letter[2]].twin()
    seats[letter[2]] = seat
    road = [each for each in stand[1] if each != letter]
    return (seats, road + seat.take(letter))


def next_worlds(stands, room):
    # From the stands by their worlds to those of one letter more; not on where there are more than there is room for.
    found = {}
    for world, stand in stands.items():
        for letter in stand[1]:
            longer = tuple(sorted(world + (letter,)))
            if longer not in found:
                found[longer] = stand_behind(stand, letter)
            if len(found) > room:
                return found
    return found


def worlds(web, way, program, rounds, most):
    stands = {(): first_stand(web, way, program, rounds)}
    found = [()]
    while stands:
        stands = next_worlds(stands, most - len(found))
        found.extend(list(stands))
        if len(found) > most:
            return ("more",)
    return ("worlds", found)


def is_stuck(stand, rounds):
    if stand[1] != []:
        return False
    for seat in stand[0].values():
        if seat.ended() < rounds:
            return True
    return False


def is_closed(web, way, program, rounds, found):
    stands = {(): first_stand(web, way, program, rounds)}
    if not isinstance(found, list):
        return False
    left = {}
    for world in found:
        if not are_letters(world):
            return False
        left[world] = True
    while stands:
        for world, stand in stands.items():
            if world not in left or is_stuck(stand, rounds):
                return False
            left.pop(world)
        stands = next_worlds(stands, len(left))
    # What is left can't be come to.
    return left == {}
