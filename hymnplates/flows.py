"""Flows: the cheapest way to send an amount through a network, with levels that show that none is cheaper."""

from heapq import heappop, heappush


class Network:
    """Named places and arcs between them, for sending at most some amount.

    Each arc has a room and a price from 0 on, and stands beside its way back, by which what was sent comes back: the
    arcs 0 and 1, 2 and 3 and so on. An arc that has room left rises at most by its price, from the level of one place
    to that of the other; where something was sent through an arc it rises by at least its price.
    """

    def __init__(self, amount):
        self._amount = amount
        self._places = {}
        self._arcs = []
        self._heads = []
        self._rooms = []
        self._prices = []
        self._levels = []

    def add_arc(self, one, other, room, price):
        """Adds an arc, without bounds if the room is None; returns its number."""
        arc = len(self._heads)
        # No arc takes more than the amount, so that one with more room never gets full.
        space = self._amount + 1 if room is None else room
        tail = self._place(one)
        head = self._place(other)
        self._arcs[tail].append(arc)
        self._arcs[head].append(arc + 1)
        self._heads.extend([head, tail])
        self._rooms.extend([space, 0])
        self._prices.extend([price, -price])
        return arc

    def send(self, one, other):
        """Sends as much of the amount as can be sent, at the least cost; returns how much."""
        start = self._place(one)
        end = self._place(other)
        left = self._amount
        while left > 0:
            ways = self._distances(start, end)
            if ways[end] is None:
                break
            for place, way in enumerate(ways):
                nearer = way is not None and way < ways[end]
                self._levels[place] = self._levels[place] + (way if nearer else ways[end])
            left = left - self._fill(start, end, left)
        return self._amount - left

    def flow(self, arc):
        """How much was sent through an arc."""
        return self._rooms[arc + 1]

    def level(self, name):
        """The level of a place; that of the place from which is sent is 0."""
        return self._levels[self._places[name]]

    def within_reach(self, name):
        """The names of the places to which more could be sent from this one."""
        ways = self._distances(self._places[name], None)
        return [one for one in self._places if ways[self._places[one]] is not None]

    def _place(self, name):
        """The number of a place, which is added if it is new."""
        if name not in self._places:
            self._places[name] = len(self._arcs)
            self._arcs.append([])
            self._levels.append(0)
        return self._places[name]

    def _distances(self, start, end):
        """For each place that is no farther than the end how far it is from the start, None if no way leads there.

        An arc is as long as its price, less what the level rises by.
        """
        ways = [None] * len(self._arcs)
        ways[start] = 0
        queue = [(0, start)]
        while queue:
            way, place = heappop(queue)
            if place == end:
                break
            if way > ways[place]:
                continue
            base = way + self._levels[place]
            for arc in self._arcs[place]:
                head = self._heads[arc]
                if self._rooms[arc] > 0:
                    longer = base + self._prices[arc] - self._levels[head]
                    if ways[head] is None or longer < ways[head]:
                        ways[head] = longer
                        heappush(queue, (longer, head))
        return ways

    def _fill(self, start, end, most):
        """Sends as much as can be sent through arcs that raise the level by just their price, at most so much."""
        sent = 0
        while sent < most:
            steps = self._steps(start)
            if steps[end] is None:
                break
            sent = sent + self._fill_shortest(start, end, most - sent, steps)
        return sent

    def _is_open(self, place, arc):
        """Whether an arc from the place has room and raises the level by just its price."""
        return self._rooms[arc] > 0 and self._levels[place] + self._prices[arc] == self._levels[self._heads[arc]]

    def _steps(self, start):
        """For each place how many open arcs lead there, None if none do."""
        steps = [None] * len(self._arcs)
        steps[start] = 0
        queue = [start]
        at = 0
        while at < len(queue):
            place = queue[at]
            at = at + 1
            for arc in self._arcs[place]:
                head = self._heads[arc]
                if steps[head] is None and self._is_open(place, arc):
                    steps[head] = steps[place] + 1
                    queue.append(head)
        return steps

    def _fill_shortest(self, start, end, most, steps):
        """Sends as much as can be sent, at most so much, by ways that have no more arcs than they must."""
        # Arcs before the place's mark lead no farther; they are not looked at again.
        marks = [0] * len(self._arcs)
        sent = 0
        way = []
        place = start
        while sent < most:
            if place == end:
                sent = sent + self._send_by(way, most - sent)
                way = []
                place = start
            elif marks[place] < len(self._arcs[place]):
                arc = self._arcs[place][marks[place]]
                head = self._heads[arc]
                if steps[head] == steps[place] + 1 and self._is_open(place, arc):
                    way.append(arc)
                    place = head
                else:
                    marks[place] = marks[place] + 1
            elif place == start:
                break
            else:
                back = way.pop()
                place = self._heads[back ^ 1]
                marks[place] = marks[place] + 1
        return sent

    def _send_by(self, way, most):
        """Sends as much as there is room for, at most so much, through these arcs."""
        amount = min([most] + [self._rooms[arc] for arc in way])
        for arc in way:
            self._rooms[arc] = self._rooms[arc] - amount
            self._rooms[arc ^ 1] = self._rooms[arc ^ 1] + amount
        return amount
