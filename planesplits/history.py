"""The deeds that are done on an index, and the two trees behind each of them.

Putting a point far down into a tree makes all nodes above it anew. So where points are put in that lie in a line, the
trees wait until they are asked for. Then those behind a run of puts come of one table, however deep they are.
"""

from planesplits.growth import middle_of_rows, quarter_of_rows, rows_by_masks, side_rows_by_masks
from planesplits.quarters import reading, way_down, with_leaf, without_root
from planesplits.sides import side_points, way_by_sides, with_point, without_top

# Behind a put for which more nodes than these are made anew, the trees wait.
FAR_DOWN = 60
# Where more nodes than these would be made anew put by put, a table for all puts is quicker.
MOST_REMADE = 2400


def put_in_both(pair, point):
    """Return the pair of a quarter tree and a middle tree with a point more, and how many nodes are made anew."""
    above, path, node = way_down(pair[0], point)
    above2, node2 = way_by_sides(pair[1], point)
    return (with_leaf(above, path, point), with_point(above2, point)), len(above) + len(above2)


def taken_from_both(pair, point):
    """Return the pair of a quarter tree and a middle tree without a point."""
    above, path, node = way_down(pair[0], point)
    above2, node2 = way_by_sides(pair[1], point)
    return without_root(above, path, node), without_top(above2, node2)


class Run:
    """Puts, one behind the other, in a table that tells the trees behind each of them."""

    def __init__(self, first, pair, points):
        # The points are put behind so many deeds, which lead to these trees with so many points.
        self.first = first
        self.before = len(reading(pair[0]))
        self.spots = reading(pair[0]) + points
        self.rows = rows_by_masks(self.spots)
        self.side_spots = side_points(pair[1]) + points
        self.side_rows = side_rows_by_masks(self.side_spots)

    def pair_behind(self, number):
        """Return the two trees behind so many deeds."""
        many = self.before + number - self.first
        return quarter_of_rows(self.spots, self.rows, many), middle_of_rows(self.side_spots, self.side_rows, many)


class History:
    """All deeds that stand, and the trees behind each of them, as far as they are made."""

    def __init__(self):
        self.done = []
        # For each number of deeds, from 0 on, the trees behind them. Where the last one is a put it can be None.
        self.pairs = [(None, None)]
        # The last table that was made, and the greatest number of deeds behind which it still tells the trees.
        self.run = None
        self.told = -1
        # Whether the last put went far down, and nobody has asked for the trees since.
        self.is_far = False

    def note(self, deed, pair):
        """Note that a deed is done, with the trees behind it, or None."""
        # Other deeds may have stood here, and be in the table.
        self.told = min(self.told, len(self.done))
        self.done.append(deed)
        self.pairs.append(pair)

    def put(self, point):
        """Put a point in that is not there."""
        pair = None
        if not self.is_far and self.pairs[-1] is not None:
            pair, remade = put_in_both(self.pairs[-1], point)
            self.is_far = remade > FAR_DOWN
        self.note(("put", point), pair)

    def take(self, point):
        """Take a point out that is there."""
        self.note(("take", point), taken_from_both(self.pair_now(), point))

    def move(self, point, place):
        """Take a point out and put another one in."""
        pair, remade = put_in_both(taken_from_both(self.pair_now(), point), place)
        self.note(("move", point, place), pair)

    def undone(self):
        """Take back the last deed, and return it."""
        self.pairs.pop()
        return self.done.pop()

    def begun(self, number):
        """Return a new history of the first deeds, so many."""
        other = History()
        other.done = self.done[:number]
        other.pairs = self.pairs[:number + 1]
        other.run = self.run
        other.told = self.told
        return other

    def last_made(self):
        """Return the greatest number of deeds behind which the trees are made."""
        number = len(self.done)
        while self.pairs[number] is None:
            number -= 1
        return number

    def spots_now(self):
        """Return a list of the points that are there."""
        made = self.last_made()
        return side_points(self.pairs[made][1]) + [deed[1] for deed in self.done[made:]]

    def run_now(self):
        """Return a table that tells the trees behind all deeds, of which the last one is a put."""
        now = len(self.done)
        if self.told >= now and self.run.first <= now:
            return self.run
        first = now
        while first > 0 and self.done[first - 1][0] == "put":
            first -= 1
        # Only behind puts the trees wait, so these are made.
        return Run(first, self.pairs[first], [deed[1] for deed in self.done[first:]])

    def pair_told(self):
        """Return the two trees behind all deeds, without keeping what is made for it."""
        pair = self.pairs[-1]
        return self.run_now().pair_behind(len(self.done)) if pair is None else pair

    def pair_now(self):
        """Return the two trees behind all deeds, and keep them."""
        self.is_far = False
        if self.pairs[-1] is None:
            self.make_last()
        return self.pairs[-1]

    def make_last(self):
        """Make the two trees behind all deeds."""
        now = len(self.done)
        made = self.last_made()
        in_table = min(now, self.told)
        if made < in_table and self.run.first <= in_table:
            made = in_table
            self.pairs[made] = self.run.pair_behind(made)
        remade = 0
        all_remade = 0
        # Each put that is left may well go as far down as the one before it.
        while made < now and all_remade + remade * (now - made) <= MOST_REMADE:
            self.pairs[made + 1], remade = put_in_both(self.pairs[made], self.done[made][1])
            all_remade += remade
            made += 1
        if made < now:
            self.run = self.run_now()
            self.told = now
            self.pairs[now] = self.run.pair_behind(now)
