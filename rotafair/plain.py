"""The least answer of a plain house, by flows [37, 38].

Duties flow from a hub to the persons, on to their days, to the needs, and back
to the hub. By each cost a person's next duty costs no less than the one ahead
of it; so each duty may have an arc of its own, and the cheap ones are taken first.
"""

from rotafair.costs import total_of
from rotafair.nets import Net, settle
from rotafair.papers import Found, Places, Prices, Without

HUB = 0


def least_plain(house, costs):
    duties = duties_of(house)
    net = net_of(house, costs, duties)
    settled = settle(net)
    if settled[0] == "cut":
        return Without(places_of(house, settled[1]))
    rota = rota_of(house, duties, settled[1])
    return Found(rota, total_of(house, costs, rota), prices_of(house, settled[2]))


def person_node(p):
    return HUB + 1 + p


def day_node(house, p, day):
    return person_node(len(house.persons)) + p * house.days + day


def need_node(house, number):
    return day_node(house, len(house.persons), 0) + number


def duties_of(house):
    # Which person may do which need, both by their numbers.
    duties = []
    for p in range(len(house.persons)):
        for day in range(house.days):
            kinds = house.may(p, day)
            duties += [(p, number) for number, need in enumerate(house.needs) if need[0] == day and need[1] in kinds]
    return duties


def net_of(house, costs, duties):
    # The arcs of the duties go first, so that their flows are found again by the duties' own order.
    arcs = [duty_arc(house, costs, p, number) for p, number in duties]
    for p in range(len(house.persons)):
        arcs += count_arcs(house, costs, p)
        arcs += [(person_node(p), day_node(house, p, day), 0, 1, 0) for day in range(house.days)]
    arcs += [(need_node(house, number), HUB, need[2], need[3], 0) for number, need in enumerate(house.needs)]
    return Net(need_node(house, len(house.needs)), arcs)


def duty_arc(house, costs, p, number):
    need = house.needs[number]
    # What a duty costs is told against the free day that it takes.
    cost = costs.of_mark(p, need[0], need[1]) - costs.of_mark(p, need[0], "-")
    return (day_node(house, p, need[0]), need_node(house, number), 0, 1, cost)


def count_arcs(house, costs, p):
    most = house.persons[p].most
    steps = [costs.of_count(p, many + 1) - costs.of_count(p, many) for many in range(most)]
    return [(HUB, person_node(p), 0, 1, cost) for cost in steps]


def rota_of(house, duties, flows):
    rows = [["-"] * house.days for person in house.persons]
    for duty, number in zip(duties, flows):
        if number == 1:
            need = house.needs[duty[1]]
            rows[duty[0]][need[0]] = need[1]
    return ["".join(row) for row in rows]


def prices_of(house, prices):
    persons = [prices[person_node(p)] - prices[HUB] for p in range(len(house.persons))]
    needs = [prices[need_node(house, number)] - prices[HUB] for number in range(len(house.needs))]
    return Prices(persons, needs)


def places_of(house, nodes):
    cut = [need for number, need in enumerate(house.needs) if need_node(house, number) in nodes]
    return Places([(need[0], need[1]) for need in cut])
