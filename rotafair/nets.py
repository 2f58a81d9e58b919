"""Nets, their flows, prices and cuts, and a net that is settled [28 to 32].

An arc is a tuple (start, goal, least, most, cost).
"""


class Net:
    def __init__(self, many, arcs):
        self.many = many
        self.arcs = list(arcs)


class Work:
    # Flows that are priced by the prices all along, and that come nearer and nearer to be even at each node.
    def __init__(self, net):
        self.net = net
        self.prices = [0] * net.many
        self.flows = [most if cost < 0 else least for start, goal, least, most, cost in net.arcs]
        self.spare = spare_of(net, self.flows)
        self.ways = ways_of(net)


def weight_of(arc, prices):
    return arc[4] + prices[arc[0]] - prices[arc[1]]


def cost_of(net, flows):
    return sum([number * arc[4] for number, arc in zip(flows, net.arcs)])


def floor_of(net, prices):
    total = 0
    for arc in net.arcs:
        weight = weight_of(arc, prices)
        total += min(weight * arc[2], weight * arc[3])
    return total


def is_flow(net, flows):
    if len(flows) != len(net.arcs):
        return False
    if not all([arc[2] <= number <= arc[3] for number, arc in zip(flows, net.arcs)]):
        return False
    return not any(spare_of(net, flows))


def is_priced(net, flows, prices):
    if len(prices) != net.many or not is_flow(net, flows):
        return False
    return all([keeps_price(arc, number, weight_of(arc, prices)) for number, arc in zip(flows, net.arcs)])


def keeps_price(arc, number, weight):
    if weight > 0:
        return number == arc[2]
    return weight == 0 or number == arc[3]


def is_cut(net, nodes):
    if len(set(nodes)) < len(nodes) or not all([0 <= node < net.many for node in nodes]):
        return False
    within = marked(net.many, nodes)
    must_leave = sum([arc[2] for arc in net.arcs if within[arc[0]] and not within[arc[1]]])
    can_come = sum([arc[3] for arc in net.arcs if within[arc[1]] and not within[arc[0]]])
    return must_leave > can_come


def marked(many, nodes):
    found = [False] * many
    for node in nodes:
        found[node] = True
    return found


def spare_of(net, flows):
    # What comes to each node and doesn't leave it: below 0 where a node lacks something.
    spare = [0] * net.many
    for number, arc in zip(flows, net.arcs):
        spare[arc[0]] -= number
        spare[arc[1]] += number
    return spare


def ways_of(net):
    # Of each node, where a unit can go from it: along an arc (1), or back on one that brought it (-1).
    ways = [[] for node in range(net.many)]
    for number, arc in enumerate(net.arcs):
        ways[arc[0]].append((number, arc[1], 1))
        ways[arc[1]].append((number, arc[0], -1))
    return ways


def settle(net):
    work = Work(net)
    while any(work.spare):
        far = {}
        steps = {}
        node = nearest_lack(work, far, steps)
        if node == -1:
            # Nothing more can leave the nodes that were come to: what must come to them is too much.
            return ("cut", [other for other in range(net.many) if other not in far])
        shift_prices(work, far, far[node])
        push(work, steps, node)
    return ("flow", work.flows, work.prices)


def nearest_lack(work, far, steps):
    # From all nodes with something to spare, the nearest node first; weights are never below 0 on the way.
    waiting = {}
    for node in range(work.net.many):
        if work.spare[node] > 0:
            waiting[node] = 0
    while waiting:
        node = min(waiting, key=lambda place: waiting[place])
        far[node] = waiting.pop(node)
        if work.spare[node] < 0:
            return node
        for number, other, sign in work.ways[node]:
            if other not in far and room(work, number, sign) > 0:
                length = far[node] + sign * weight_of(work.net.arcs[number], work.prices)
                if other not in waiting or length < waiting[other]:
                    waiting[other] = length
                    steps[other] = (number, node, sign)
    return -1


def room(work, number, sign):
    arc = work.net.arcs[number]
    return arc[3] - work.flows[number] if sign == 1 else work.flows[number] - arc[2]


def shift_prices(work, far, reach):
    # All prices may rise by the same, so those beyond the reach stay and the nearer ones fall.
    for node, length in far.items():
        work.prices[node] += length - reach


def push(work, steps, node):
    path = []
    start = node
    while start in steps:
        path.append(steps[start])
        start = steps[start][1]
    rooms = [room(work, number, sign) for number, before, sign in path]
    many = min([work.spare[start], -work.spare[node]] + rooms)
    for number, before, sign in path:
        work.flows[number] += sign * many
    work.spare[start] -= many
    work.spare[node] += many
