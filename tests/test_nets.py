"""Points 28 to 32: nets, flows, prices, weights, floors, cuts, a net that is settled."""

import itertools
import random
import unittest

from rotafair.nets import Net, cost_of, floor_of, is_cut, is_flow, is_priced, settle

EXAMPLE = [(0, 1, 0, 2, 3), (1, 0, 1, 2, -5)]


def every_flow(many, arcs):
    """Point 28, by its words: each list of numbers within the bounds that is even at each node."""
    found = []
    for numbers in itertools.product(*[range(arc[2], arc[3] + 1) for arc in arcs]):
        even = True
        for node in range(many):
            leaving = sum(number for number, arc in zip(numbers, arcs) if arc[0] == node)
            coming = sum(number for number, arc in zip(numbers, arcs) if arc[1] == node)
            even = even and leaving == coming
        if even:
            found.append(list(numbers))
    return found


def every_cut(many, arcs):
    found = []
    for size in range(many + 1):
        for nodes in itertools.combinations(range(many), size):
            leasts = sum(arc[2] for arc in arcs if arc[0] in nodes and arc[1] not in nodes)
            mosts = sum(arc[3] for arc in arcs if arc[0] not in nodes and arc[1] in nodes)
            if leasts > mosts:
                found.append(list(nodes))
    return found


def some_arcs(dice, many, size, most=3, cost=4, least=2):
    arcs = []
    for number in range(size if many else 0):
        low = dice.choice((0, 0, dice.randint(0, least)))
        high = dice.randint(low, max(low, most))
        arcs.append((dice.randrange(many), dice.randrange(many), low, high, dice.randint(-cost, cost)))
    return arcs


class Settled(unittest.TestCase):
    def check(self, many, arcs):
        net = Net(many, arcs)
        told = settle(net)
        self.assertIs(type(told), tuple)
        self.assertEqual((net.many, net.arcs), (many, arcs))
        for part in told[1:]:
            self.assertIs(type(part), list)
            self.assertLessEqual({type(number) for number in part}, {int})
        if told[0] == "flow":
            self.assertEqual(len(told), 3)
            self.assertIs(is_flow(net, told[1]), True)
            self.assertIs(is_priced(net, told[1], told[2]), True)
            self.assertEqual((len(told[1]), len(told[2])), (len(arcs), many))
            self.assertEqual(cost_of(net, told[1]), floor_of(net, told[2]))
        else:
            self.assertEqual((len(told), told[0]), (2, "cut"))
            self.assertIs(is_cut(net, told[1]), True)
            self.assertEqual(told[1], sorted(set(told[1])))
        return told

    def check_beside_every_flow(self, many, arcs):
        told = self.check(many, arcs)
        flows = every_flow(many, arcs)
        if told[0] == "cut":
            self.assertEqual(flows, [])
            self.assertIn(told[1], every_cut(many, arcs))
        else:
            self.assertIn(told[1], flows)
            costs = [sum(number * arc[4] for number, arc in zip(flow, arcs)) for flow in flows]
            self.assertEqual(cost_of(Net(many, arcs), told[1]), min(costs))
            self.assertEqual(every_cut(many, arcs), [])
        return told[0]

    def test_without_nodes(self):
        self.assertEqual(self.check(0, []), ("flow", [], []))

    def test_without_arcs(self):
        told = self.check(3, [])
        self.assertEqual((told[0], told[1], len(told[2])), ("flow", [], 3))

    def test_the_example(self):
        told = self.check(2, EXAMPLE)
        self.assertEqual(told[:2], ("flow", [2, 2]))
        self.assertEqual(floor_of(Net(2, EXAMPLE), told[2]), -4)

    def test_arcs_from_a_node_to_itself(self):
        arcs = [(0, 0, 1, 4, 2), (0, 0, 1, 4, -2), (1, 1, 2, 2, -9), (1, 1, 0, 3, 1)]
        told = self.check(2, arcs)
        self.assertEqual(told[:2], ("flow", [1, 4, 2, 0]))
        self.check_beside_every_flow(2, arcs + [(0, 1, 0, 2, -1), (1, 0, 1, 2, 0)])

    def test_several_arcs_between_the_same_two(self):
        arcs = [(1, 0, 3, 3, 0), (0, 1, 0, 2, 5), (0, 1, 0, 2, 1), (0, 1, 0, 2, 3), (0, 1, 0, 2, 4)]
        self.assertEqual(self.check(2, arcs)[:2], ("flow", [3, 0, 2, 1, 0]))

    def test_costs_below_nought(self):
        arcs = [(0, 1, 0, 3, -4), (1, 2, 0, 2, 1), (2, 0, 0, 5, 2), (1, 0, 0, 9, 5)]
        self.assertEqual(self.check(3, arcs)[:2], ("flow", [2, 2, 2, 0]))
        arcs[3] = (1, 0, 0, 9, 2)
        self.assertEqual(self.check(3, arcs)[:2], ("flow", [3, 0, 0, 3]))

    def test_leasts_above_nought(self):
        self.assertEqual(self.check(2, [(0, 1, 2, 3, 9), (1, 0, 1, 5, 9)])[:2], ("flow", [2, 2]))
        self.assertEqual(self.check(2, [(0, 1, 1, 2, -7)]), ("cut", [0]))
        self.assertEqual(self.check(3, [(0, 1, 2, 3, 0), (1, 2, 0, 1, 0), (2, 0, 0, 3, 0)])[0], "cut")

    def test_nodes_apart_from_one_another(self):
        arcs = [(0, 1, 1, 2, 1), (1, 0, 0, 2, 1), (2, 3, 0, 1, -1), (3, 2, 0, 1, -1)]
        self.assertEqual(self.check(5, arcs)[:2], ("flow", [1, 1, 1, 1]))
        arcs.append((3, 4, 1, 1, 0))
        self.assertEqual(self.check(5, arcs)[0], "cut")

    def test_small_nets_beside_every_flow(self):
        dice = random.Random(31)
        seen = []
        for turn in range(500):
            many = dice.randint(1, 4)
            seen.append(self.check_beside_every_flow(many, some_arcs(dice, many, dice.randint(0, 6))))
        self.assertGreater(seen.count("flow"), 100)
        self.assertGreater(seen.count("cut"), 100)

    def test_small_nets_with_many_ties(self):
        dice = random.Random(32)
        for turn in range(200):
            many = dice.randint(1, 4)
            self.check_beside_every_flow(many, some_arcs(dice, many, 6, cost=dice.randint(0, 1), least=1))

    def test_costs_of_150_figures(self):
        dice = random.Random(33)
        great = 10 ** 150 - 1
        arcs = [(0, 1, 1, 60, great), (1, 0, 0, 60, 1 - great), (1, 0, 0, 60, great), (0, 1, 0, 3, -great)]
        self.assertEqual(self.check(2, arcs)[:2], ("flow", [1, 4, 0, 3]))
        for turn in range(100):
            many = dice.randint(2, 4)
            self.check_beside_every_flow(many, some_arcs(dice, many, 5, cost=great))

    def test_nets_of_the_greatest_size(self):
        dice = random.Random(34)
        for least in (0, 0, 3):
            arcs = some_arcs(dice, 200, 800, most=60, cost=10 ** 150 - 1, least=least)
            self.check(200, arcs)
        ring = [(node, (node + 1) % 200, 0, 60, dice.randint(-9, 9)) for node in range(200)]
        ring += [((node + 7) % 200, node, dice.randint(0, 2), 60, dice.randint(-9, 9)) for node in range(200)]
        ring += [(node, 0, 0, 60, 10 ** 149 - node) for node in range(200)]
        ring += [(0, node, 0, 60, node - 10 ** 149) for node in range(200)]
        self.assertEqual(self.check(200, ring)[0], "flow")

    def test_a_told_list_that_is_changed(self):
        for arcs in (EXAMPLE, [(0, 1, 1, 2, 0)]):
            net = Net(2, arcs)
            first = settle(net)
            kept = [list(part) for part in first[1:]]
            for part in first[1:]:
                part.clear()
            self.assertEqual([list(part) for part in settle(net)[1:]], kept)

    def test_arcs_handed_in_and_changed_behind(self):
        arcs = list(EXAMPLE)
        net = Net(2, arcs)
        arcs[0] = (0, 1, 0, 0, 0)
        arcs.append((0, 0, 1, 1, 1))
        self.assertEqual((net.many, net.arcs), (2, EXAMPLE))
        self.assertEqual(settle(net)[1], [2, 2])


class Floors(unittest.TestCase):
    def test_the_example(self):
        net = Net(2, EXAMPLE)
        self.assertEqual(cost_of(net, [2, 2]), -4)
        self.assertEqual(floor_of(net, [0, 3]), -4)
        self.assertEqual(floor_of(net, [0, 0]), -10)
        self.assertEqual(floor_of(net, [0, 5]), -4)
        self.assertEqual(floor_of(net, [0, 6]), -5)

    def test_weights_of_both_signs(self):
        net = Net(3, [(0, 1, 2, 5, 10), (1, 2, 1, 4, 0), (2, 2, 3, 7, -1)])
        self.assertEqual(floor_of(net, [0, 0, 0]), 20 + 0 - 7)
        self.assertEqual(floor_of(net, [1, 20, 5]), (10 + 1 - 20) * 5 + 15 * 1 - 7)
        self.assertEqual(floor_of(net, [9, 2, 30]), (10 + 9 - 2) * 2 + (2 - 30) * 4 - 7)

    def test_nets_without_nodes_or_arcs(self):
        self.assertEqual((cost_of(Net(0, []), []), floor_of(Net(0, []), [])), (0, 0))
        self.assertEqual((cost_of(Net(2, []), []), floor_of(Net(2, []), [4, -4])), (0, 0))

    def test_never_above_what_a_flow_costs(self):
        dice = random.Random(29)
        looked = 0
        for turn in range(300):
            many = dice.randint(1, 4)
            arcs = some_arcs(dice, many, dice.randint(1, 6))
            flows = every_flow(many, arcs)
            for bound in (2, 9, 10 ** 200 - 1):
                prices = [dice.randint(-bound, bound) for node in range(many)]
                floor = floor_of(Net(many, arcs), prices)
                self.assertIs(type(floor), int)
                for flow in flows:
                    cost = cost_of(Net(many, arcs), flow)
                    self.assertLessEqual(floor, cost)
                    priced = is_priced(Net(many, arcs), flow, prices)
                    self.assertIs(priced, cost == floor)
                    looked += priced
        self.assertGreater(looked, 100)

    def test_lists_that_are_handed_in_stay(self):
        flows, prices, nodes = [2, 2], [0, 3], [1, 0]
        net = Net(2, EXAMPLE)
        cost_of(net, flows), floor_of(net, prices), is_flow(net, flows), is_priced(net, flows, prices)
        is_cut(net, nodes)
        self.assertEqual((flows, prices, nodes), ([2, 2], [0, 3], [1, 0]))


class Flows(unittest.TestCase):
    def test_flows_of_the_example(self):
        net = Net(2, EXAMPLE)
        for flows, expected in (
            ([2, 2], True), ([1, 1], True), ([0, 0], False), ([2, 1], False), ([3, 3], False), ([-1, -1], False),
            ([], False), ([2], False), ([2, 2, 2], False), ([2, 2, 0], False), ([10 ** 200, 10 ** 200], False),
        ):
            self.assertIs(is_flow(net, flows), expected, flows)

    def test_least_and_most_themselves(self):
        net = Net(1, [(0, 0, 2, 4, 0)])
        self.assertEqual([is_flow(net, [number]) for number in range(6)], [False, False, True, True, True, False])

    def test_nets_without_nodes_or_arcs(self):
        for many in (0, 1, 3):
            self.assertIs(is_flow(Net(many, []), []), True)
            self.assertIs(is_flow(Net(many, []), [0]), False)
            self.assertIs(is_priced(Net(many, []), [], [7] * many), True)
            self.assertIs(is_priced(Net(many, []), [], [7] * (many + 1)), False)

    def test_each_node_is_asked(self):
        net = Net(3, [(0, 1, 0, 5, 0), (1, 2, 0, 5, 0), (2, 0, 0, 5, 0)])
        self.assertIs(is_flow(net, [4, 4, 4]), True)
        for flows in ([4, 4, 3], [4, 3, 4], [3, 4, 4]):
            self.assertIs(is_flow(net, flows), False)

    def test_every_list_of_small_numbers(self):
        dice = random.Random(30)
        for turn in range(60):
            many = dice.randint(1, 3)
            arcs = some_arcs(dice, many, dice.randint(0, 4), most=2)
            flows = every_flow(many, arcs)
            for numbers in itertools.product(range(-1, 4), repeat=len(arcs)):
                self.assertIs(is_flow(Net(many, arcs), list(numbers)), list(numbers) in flows)

    def test_priced(self):
        net = Net(2, EXAMPLE)
        for flows, prices, expected in (
            ([2, 2], [0, 3], True), ([2, 2], [5, 8], True), ([1, 1], [0, 3], False), ([2, 2], [0, 5], True),
            ([1, 1], [0, 5], False), ([2, 2], [0, 2], False), ([2, 2], [0, 6], False), ([2, 1], [0, 3], False),
            ([2, 2], [0], False), ([2, 2], [], False), ([2, 2], [0, 3, 0], False), ([2], [0, 3], False),
            ([2, 2, 2], [0, 3], False), ([], [], False), ([0, 0], [0, 0], False),
        ):
            self.assertIs(is_priced(net, flows, prices), expected, (flows, prices))

    def test_what_is_no_flow_is_not_priced(self):
        net = Net(2, [(0, 1, 0, 2, 0)])
        self.assertIs(is_priced(net, [0], [0, 0]), True)
        self.assertIs(is_priced(net, [1], [0, 0]), False)
        self.assertIs(is_priced(net, [2], [0, 1]), False)


class Cuts(unittest.TestCase):
    def test_a_list_without_numbers(self):
        self.assertIs(is_cut(Net(0, []), []), False)
        self.assertIs(is_cut(Net(2, [(0, 1, 1, 2, 0)]), []), False)

    def test_numbers_that_are_no_nodes_and_nodes_told_twice(self):
        net = Net(2, [(0, 1, 1, 2, 0)])
        for nodes, expected in (
            ([0], True), ([1], False), ([0, 1], False), ([1, 0], False), ([0, 0], False), ([0, -1], False),
            ([0, 2], False), ([-1], False), ([2], False), ([-2], False), ([10 ** 200], False), ([0, 0, 1], False),
        ):
            self.assertIs(is_cut(net, nodes), expected, nodes)
        net = Net(2, [(1, 0, 1, 2, 0)])
        self.assertEqual([is_cut(net, [node]) for node in (-2, -1, 0, 1, 2)], [False, False, False, True, False])

    def test_more_and_not_as_many(self):
        for most, expected in ((0, True), (2, True), (3, False), (4, False)):
            self.assertIs(is_cut(Net(2, [(0, 1, 3, 5, 0), (1, 0, 0, most, 0)]), [0]), expected)

    def test_arcs_within_and_without_count_nothing(self):
        arcs = [(0, 1, 3, 3, 0), (2, 2, 5, 5, 0), (0, 0, 9, 9, 0), (1, 2, 1, 1, 0)]
        self.assertIs(is_cut(Net(3, arcs), [0, 1]), True)
        self.assertIs(is_cut(Net(3, arcs + [(2, 1, 0, 1, 0)]), [0, 1]), False)
        self.assertIs(is_cut(Net(3, arcs), [2]), False)

    def test_the_order_does_not_matter(self):
        net = Net(4, [(0, 3, 1, 1, 0), (2, 3, 1, 1, 0), (3, 1, 0, 1, 0)])
        for nodes in itertools.permutations([0, 1, 2]):
            self.assertIs(is_cut(net, list(nodes)), True)

    def test_every_list_of_nodes_of_small_nets(self):
        dice = random.Random(35)
        for turn in range(200):
            many = dice.randint(0, 4)
            arcs = some_arcs(dice, many, dice.randint(0, 6))
            cuts = every_cut(many, arcs)
            for size in range(many + 1):
                for nodes in itertools.combinations(range(many), size):
                    self.assertIs(is_cut(Net(many, arcs), list(nodes)), list(nodes) in cuts)
            if cuts:
                self.assertEqual(every_flow(many, arcs), [])


if __name__ == "__main__":
    unittest.main()
