"""One judge: whether a demand stands, and what shows that it does or does not."""

from leftwithout.checks import as_tuples, is_number, is_numbers
from leftwithout.errors import Unfit
from leftwithout.lots import can_be_without, is_order_for, is_why_not, order_for, why_not
from leftwithout.most import greatest_choice, most
from leftwithout.orders import how_many_orders, sizes_of
from leftwithout.parts import is_lot
from leftwithout.rings import is_why_no_outcome, why_no_outcome
from leftwithout.runs import is_order, without_of
from leftwithout.stars import order_free
from leftwithout.takings import is_order_of, is_outcome, is_taking, order_of
from leftwithout.together import can_together, is_order_with, is_why_never, order_with, why_never
from leftwithout.webs import is_web


def is_demand(thing):
    """Whether thing is a DEMAND."""
    if not isinstance(thing, tuple) or not 3 <= len(thing) <= 4 or not is_web(thing[1]):
        return False
    kind, web, told = thing[:3]
    if len(thing) == 4:
        return kind == "orders" and _is_full_outcome(web, told) and _is_count(thing[3])
    if kind in ("without", "together"):
        return is_lot(web, told)
    if kind == "outcome":
        return is_taking(web, told)
    return kind == "many" and _is_count(told)


def is_so(demand):
    """Whether the DEMAND stands."""
    return _stands(_need_demand(demand))


def paper_against(demand):
    """A PAPER against the DEMAND; None if it stands."""
    demand = _need_demand(demand)
    if _stands(demand):
        return None
    kind, web, told = demand[:3]
    if kind == "without":
        return why_not(web, told)
    if kind == "together":
        return why_never(web, told)
    if kind == "outcome":
        return why_no_outcome(web, told)
    return _right_number(demand)


def is_paper_against(demand, thing):
    """Whether thing is a PAPER against the DEMAND."""
    demand = _need_demand(demand)
    stands = _stands(demand)
    kind, web, told = demand[:3]
    if stands:
        return False
    if kind == "without":
        return is_why_not(web, told, thing)
    if kind == "together":
        return is_why_never(web, told, thing)
    if kind == "outcome":
        return is_why_no_outcome(web, told, thing)
    return is_number(thing) and thing == _right_number(demand)


def reason_for(demand):
    """A REASON for the DEMAND; None if it does not stand."""
    demand = _need_demand(demand)
    if not _stands(demand):
        return None
    kind, web, told = demand[:3]
    if kind == "without":
        return order_for(web, told)
    if kind == "together":
        return order_with(web, told)
    if kind == "outcome":
        return order_of(web, told)
    if kind == "many":
        # With all of a greatest CHOICE free the most are WITHOUT.
        return order_free(web, greatest_choice(web))
    return sizes_of(web, told)


def is_reason_for(demand, thing):
    """Whether thing is a REASON for the DEMAND."""
    demand = _need_demand(demand)
    if not _stands(demand):
        return False
    kind, web, told = demand[:3]
    if kind == "without":
        return is_order_for(web, told, thing)
    if kind == "together":
        return is_order_with(web, told, thing)
    if kind == "outcome":
        return is_order_of(web, told, thing)
    if kind == "many":
        return is_order(web, thing) and len(without_of(web, thing)) >= told
    return is_numbers(thing) and thing == sizes_of(web, told)


def first_fallen(demands):
    """The number of the first DEMAND that does not stand; None if all stand."""
    plain = as_tuples(demands, 5)
    if not isinstance(plain, tuple) or not all([is_demand(own) for own in plain]):
        raise Unfit()
    for number, demand in enumerate(plain):
        if not _stands(demand):
            return number
    return None


def _need_demand(demand):
    """The DEMAND with tuples throughout; Unfit() if it is none."""
    plain = as_tuples(demand, 4)
    if not is_demand(plain):
        raise Unfit()
    return plain


def _is_count(value):
    """Whether value is a number from 0."""
    return is_number(value) and value >= 0


def _is_full_outcome(web, value):
    """Whether value is an OUTCOME with nobody WITHOUT, of what is sure to be a WEB."""
    return is_taking(web, value) and None not in value and is_outcome(web, value)


# What stands below is of what is sure to be a DEMAND.


def _stands(demand):
    """Whether the DEMAND stands; TooMany() if it asks how many and there are too many to search."""
    kind, web, told = demand[:3]
    if kind == "without":
        return can_be_without(web, told)
    if kind == "together":
        return can_together(web, told)
    if kind == "outcome":
        return is_outcome(web, told)
    if kind == "many":
        return told <= _right_number(demand)
    return demand[3] == _right_number(demand)


def _right_number(demand):
    """The most who are WITHOUT, or how many ORDERS have the OUTCOME, whichever the DEMAND asks for."""
    kind, web, told = demand[:3]
    return most(web) if kind == "many" else how_many_orders(web, told)
