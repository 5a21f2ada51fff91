"""Webs: hands and the lines between them."""

from beatless.errors import NoHand, NoWeb
from beatless.wholes import is_whole

MOST_HANDS = 12
LAST_HAND = 99


def are_hands(hands):
    if not isinstance(hands, list) or len(hands) < 1 or len(hands) > MOST_HANDS:
        return False
    ahead = -1
    for hand in hands:
        if not is_whole(hand) or hand <= ahead or hand > LAST_HAND:
            return False
        ahead = hand
    return True


def is_line(line, hands):
    if not isinstance(line, tuple) or len(line) != 2:
        return False
    # 1.0 and True equal 1, so being found among the hands is not enough.
    if not is_whole(line[0]) or not is_whole(line[1]):
        return False
    return line[0] in hands and line[1] in hands and line[0] < line[1]


def are_lines(lines, hands):
    if not isinstance(lines, list):
        return False
    seen = {}
    for line in lines:
        if not is_line(line, hands) or line in seen:
            return False
        seen[line] = True
    return True


def near_by_hand(hands, lines):
    near = {}
    for hand in hands:
        near[hand] = []
    for one, other in lines:
        near[one].append(other)
        near[other].append(one)
    return near


class Web:
    def __init__(self, hands, lines):
        # The errors show no value: not every value can be written out.
        if not are_hands(hands):
            raise NoWeb("hands are 1 to 12 rising whole numbers from 0 to 99, in a list")
        if not are_lines(lines, hands):
            raise NoWeb("lines are unlike tuples of two hands, the lesser one first, in a list")
        self.own_hands = list(hands)
        self.own_lines = sorted(lines)
        self.near = near_by_hand(hands, lines)

    def hands(self):
        return list(self.own_hands)

    def lines(self):
        return list(self.own_lines)

    def has_hand(self, hand):
        return is_whole(hand) and hand in self.near

    def has_line(self, one, other):
        return self.has_hand(one) and self.has_hand(other) and other in self.near[one]

    def neighbours(self, hand):
        if not self.has_hand(hand):
            raise NoHand("the web has no such hand")
        return sorted(self.near[hand])

    def groups(self):
        found = []
        placed = {}
        for hand in self.own_hands:
            if hand not in placed:
                group = self.group_of(hand)
                found.append(group)
                for member in group:
                    placed[member] = True
        return found

    def group_of(self, hand):
        reached = {hand: True}
        left = [hand]
        while left:
            here = left.pop()
            for other in self.near[here]:
                if other not in reached:
                    reached[other] = True
                    left.append(other)
        return sorted(reached)
