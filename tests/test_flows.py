"""Flows through small networks, against all flows, and levels that show that none is cheaper."""

import itertools
import random
import unittest

from hymnplates.flows import Network


def all_flows(arcs, places, most):
    """(amount, cost) of all flows from 0 to the last place."""
    for flow in itertools.product(*[range(min(most, most if room is None else room) + 1) for _, _, room, _ in arcs]):
        balance = [0] * places
        for (one, other, _, _), sent in zip(arcs, flow):
            balance[one] -= sent
            balance[other] += sent
        if not any(balance[1:-1]) and 0 <= balance[-1] <= most:
            yield balance[-1], sum(sent * price for sent, (_, _, _, price) in zip(flow, arcs))


class FlowsTest(unittest.TestCase):

    def sent(self, amount, arcs, start, end):
        """(how much is sent, its cost), when levels and flows have been looked at."""
        network = Network(amount)
        numbers = [network.add_arc(*arc) for arc in arcs]
        network.add_arc(start, end, 0, 0)
        many = network.send(start, end)
        for number, (one, other, room, price) in zip(numbers, arcs):
            flow = network.flow(number)
            self.assertTrue(flow >= 0 and (room is None or flow <= room))
            rise = network.level(other) - network.level(one)
            if room is None or flow < room:
                self.assertLessEqual(rise, price)
            if flow > 0:
                self.assertGreaterEqual(rise, price)
        self.assertEqual(network.level(start), 0)
        if many < amount:
            self.assertNotIn(end, network.within_reach(start))
        return many, sum(network.flow(number) * arc[3] for number, arc in zip(numbers, arcs))

    def test_small_networks_against_all_flows(self):
        chance = random.Random(54)
        for _ in range(150):
            places = chance.randrange(2, 6)
            pairs = [pair for pair in itertools.permutations(range(places), 2) if pair[0] != places - 1 and pair[1] != 0]
            arcs = [(*pair, chance.choice([None, 0, 1, 2]), chance.choice([0, 0, 1, 2, 5])) for pair in
                    chance.sample(pairs, min(6, len(pairs)))]
            most = chance.randrange(4)
            flows = list(all_flows(arcs, places, most))
            many = max(amount for amount, _ in flows)
            self.assertEqual(self.sent(most, arcs, 0, places - 1),
                             (many, min(cost for amount, cost in flows if amount == many)))

    def test_amounts_of_many_digits_take_few_steps(self):
        most = 10 ** 100
        arcs = [("s", "a", most, 1), ("s", "b", most, 1), ("a", "b", 1, 0), ("b", "a", 1, 0), ("a", "t", most, 1),
                ("b", "t", most, 1)]
        self.assertEqual(self.sent(2 * most, arcs, "s", "t"), (2 * most, 4 * most))

    def test_two_arcs_between_two_places(self):
        arcs = [("s", "t", 2, 0), ("s", "t", None, 3), ("s", "t", 1, 1)]
        self.assertEqual([self.sent(amount, arcs, "s", "t") for amount in range(6)],
                         [(0, 0), (1, 0), (2, 0), (3, 1), (4, 4), (5, 7)])


if __name__ == "__main__":
    unittest.main()
