"""Who pays for the waiting of vessels in a run, and how the balances are settled."""

from tidewarden.ports import BERTHED, ROADS

WAITING_UNITS = 6


def vessels_at(state, where):
    """Return the ascending list of the vessels that are away, in the roads, at berths or gone."""
    return [v for v, place in enumerate(state[0]) if place[0] == where]


def bill_rows(port, triples):
    """Return the ascending list of the tuples (tick, waiting, payer, units) of a run."""
    rows = []
    for tick, (_, middle, after) in enumerate(triples):
        for waiting in vessels_at(after, ROADS):
            payers = vessels_at(middle, BERTHED) or [waiting]
            rows.extend([(tick, waiting, payer, WAITING_UNITS // len(payers)) for payer in payers])
    return rows


def paid(port, triples):
    """Return the list of the units that each vessel pays in a run."""
    rows = bill_rows(port, triples)
    return [sum([units for _, _, payer, units in rows if payer == v]) for v in range(len(port[4]))]


def caused(port, triples):
    """Return the list of the units that each vessel costs in a run."""
    rows = bill_rows(port, triples)
    return [sum([units for _, waiting, _, units in rows if waiting == v]) for v in range(len(port[4]))]


def settlement(port, triples):
    """Return the list of the triples (giver, taker, units) that brings all balances of a run to 0."""
    balances = [cost - units for cost, units in zip(caused(port, triples), paid(port, triples))]
    found = []
    # The sum of the balances stays 0, so there are takers as long as there are givers.
    while min(balances) < 0:
        giver = [v for v in range(len(balances)) if balances[v] < 0][0]
        taker = [v for v in range(len(balances)) if balances[v] > 0][0]
        units = min(-balances[giver], balances[taker])
        balances[giver] += units
        balances[taker] -= units
        found.append((giver, taker, units))
    return found
