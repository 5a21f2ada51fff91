"""Plain runs: what each hand has and hears, round by round, as though there were a beat."""


def first_worths(web, program):
    return dict([(hand, program.first_worth(hand, len(web.neighbours(hand)))) for hand in web.hands()])


def heard_in(web, program, worths, turn):
    heard = dict([(hand, []) for hand in web.hands()])
    # The senders rise, so that each list comes sorted.
    for hand in web.hands():
        near = web.neighbours(hand)
        for other in near:
            number = program.word_to(worths[hand], hand, turn, len(near), other)
            if number is not None:
                heard[other].append((hand, number))
    return heard


def worths_behind(web, program, worths, turn, heard):
    found = {}
    for hand in web.hands():
        lines = len(web.neighbours(hand))
        numbers = [pair[1] for pair in heard[hand]]
        found[hand] = program.next_worth(worths[hand], hand, turn, lines, numbers)
    return found


def run_pieces(pieces, program):
    # Hands that a piece's web hasn't keep their last worth, for the piece that has them again.
    last = first_worths(pieces[0][0], program)
    worths = [dict(last)]
    heard = []
    for web, rounds in pieces:
        first = len(worths)
        for turn in range(first, first + rounds):
            heard.append(heard_in(web, program, last, turn))
            worths.append(worths_behind(web, program, last, turn, heard[-1]))
            last.update(worths[-1])
    return (worths, heard)


def worths_by_pieces(pieces, program):
    return run_pieces(pieces, program)[0]


def heard_by_pieces(pieces, program):
    return run_pieces(pieces, program)[1]


def plain_worths(web, program, rounds):
    return worths_by_pieces([(web, rounds)], program)


def plain_heard(web, program, rounds):
    return heard_by_pieces([(web, rounds)], program)
