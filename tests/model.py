"""A plain model of the lanes, told by points [6] to [6.4] alone: nothing of the package is used here."""

from itertools import permutations


class Lanes:
    """What lies where: lists from which wagons are taken in front and to which they are put behind."""

    def __init__(self, yard, stand):
        self.pairs = yard[2]
        self.waiting = list(stand[0])
        self.firsts = [list(lane) for lane in stand[1]]
        self.seconds = [list(lane) for lane in stand[2]]
        self.gone = stand[3]

    def stand(self):
        """The stand as the document writes it."""
        firsts = tuple(tuple(lane) for lane in self.firsts)
        return (tuple(self.waiting), firsts, tuple(tuple(lane) for lane in self.seconds), self.gone)

    def make(self, move):
        """Make the move if it can be made, and tell whether it was made."""
        kind, at = move
        if kind == "in" and self.waiting:
            self.firsts[at].append(self.waiting.pop(0))
        elif kind == "over" and self.firsts[self.pairs[at][0]]:
            self.seconds[self.pairs[at][1]].append(self.firsts[self.pairs[at][0]].pop(0))
        elif kind == "out" and self.seconds[at] and self.seconds[at][0] == self.gone:
            self.seconds[at].pop(0)
            self.gone += 1
        else:
            return False
        return True


def start(yard, row):
    """The stand in which all wagons wait."""
    return (tuple(row), ((),) * yard[0], ((),) * yard[1], 0)


def all_moves(yard):
    """All moves of the yard, in the order in which greens tells them."""
    moves = [("in", a) for a in range(yard[0])]
    moves += [("over", t) for t in range(len(yard[2]))]
    return moves + [("out", b) for b in range(yard[1])]


def after(yard, stand, move):
    """The stand after the move; None if it cannot be made."""
    lanes = Lanes(yard, stand)
    return lanes.stand() if lanes.make(move) else None


def is_green(yard, row, dealing, stand, move):
    """Whether the move is green, by the words of [6.2]."""
    waiting, firsts, seconds, gone = stand
    track = {wagon: t for wagon, t in zip(row, dealing)}
    kind, at = move
    if kind == "in":
        return bool(waiting) and yard[2][track[waiting[0]]][0] == at
    if kind == "out":
        return bool(seconds[at]) and seconds[at][0] == gone
    a, b = yard[2][at]
    if not firsts[a] or track[firsts[a][0]] != at:
        return False
    for wagon in range(firsts[a][0]):
        if yard[2][track[wagon]][1] == b:
            if wagon in waiting or any(wagon in lane for lane in firsts):
                return False
    return True


def green_moves(yard, row, dealing, stand):
    """All green moves, in the order of [6.2]."""
    return tuple(move for move in all_moves(yard) if is_green(yard, row, dealing, stand, move))


def last_stands(yard, row, dealing):
    """All stands at which green moves end, with those on the way to them."""
    found = {start(yard, row)}
    left = list(found)
    last = []
    while left:
        stand = left.pop()
        moves = green_moves(yard, row, dealing, stand)
        if not moves:
            last.append(stand)
        for move in moves:
            further = after(yard, stand, move)
            if further not in found:
                found.add(further)
                left.append(further)
    return last, sorted(found)


def not_over(stand):
    """The wagons that have not gone over, ascending."""
    return tuple(sorted(stand[0] + tuple(wagon for lane in stand[1] for wagon in lane)))


def all_stands(yard, row):
    """All stands of a short row by [6], whether or not moves lead to them."""
    found = []
    for gone in range(len(row) + 1):
        for many in range(len(row) + 1):
            waiting = tuple(row[many:])
            if all(wagon >= gone for wagon in waiting):
                inside = [wagon for wagon in row[:many] if wagon >= gone]
                found.extend((waiting,) + lanes + (gone,) for lanes in fillings(yard, inside))
    return found


def fillings(yard, wagons):
    """All ways in which the wagons can lie in the lanes."""
    found = set()
    for order in permutations(wagons):
        for cuts in cut_places(len(wagons), yard[0] + yard[1] - 1):
            ends = (0,) + cuts + (len(wagons),)
            lanes = tuple(order[low:high] for low, high in zip(ends, ends[1:]))
            found.add((lanes[:yard[0]], lanes[yard[0]:]))
    return sorted(found)


def cut_places(many, cuts, least=0):
    """All rising tuples of so many places, equal ones too, from 0 to the number of wagons."""
    if cuts == 0:
        return [()]
    return [(at,) + more for at in range(least, many + 1) for more in cut_places(many, cuts - 1, at)]


def some_stand(dice, yard, row):
    """Any stand of the row, whether or not moves lead to it."""
    many = dice.randint(0, len(row))
    waiting = tuple(row[many:])
    gone = dice.randint(0, min(waiting, default=len(row)))
    lanes = [[] for _ in range(yard[0] + yard[1])]
    inside = [wagon for wagon in row[:many] if wagon >= gone]
    dice.shuffle(inside)
    for wagon in inside:
        dice.choice(lanes).append(wagon)
    lots = tuple(tuple(lane) for lane in lanes)
    return (waiting, lots[:yard[0]], lots[yard[0]:], gone)
