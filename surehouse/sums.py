"""Amounts of money: shared by weights, and taxed (point 16)."""

from surehouse.catalogs import is_between, is_row
from surehouse.errors import BadNumber

MOST = 10 ** 12


def check_amount(amount):
    """Raise BadNumber for a value that is no amount."""
    if not is_between(amount, 0, MOST):
        raise BadNumber("this is no amount")


def check_weights(weights):
    """Raise BadNumber for a value that is no weights."""
    if not is_row(weights, 1, 40) or not all([is_between(weight, 0, MOST) for weight in weights]) or sum(weights) == 0:
        raise BadNumber("these are no weights")


def check_rate(rate):
    """Raise BadNumber for a value that is no rate."""
    if not is_between(rate, 0, 999):
        raise BadNumber("this is no rate")


def shared(amount, weights):
    """The parts of an amount by weights; what the floors leave goes to the greatest rests, first ones first."""
    check_amount(amount)
    check_weights(weights)
    total = sum(weights)
    parts = [amount * weight // total for weight in weights]
    by_rest = sorted([(-(amount * weight - part * total), place)
                      for place, (weight, part) in enumerate(zip(weights, parts))])
    for _, place in by_rest[:amount - sum(parts)]:
        parts[place] += 1
    return tuple(parts)


def stepped(amount, weights):
    """The parts of an amount by weights that come one behind another."""
    check_amount(amount)
    check_weights(weights)
    total = sum(weights)
    parts = []
    weight_so_far = 0
    given = 0
    for weight in weights:
        weight_so_far += weight
        part = amount * weight_so_far // total - given
        parts.append(part)
        given += part
    return tuple(parts)


def taxed(net, rate):
    """The tax of a net at a rate in thousandths, a half rounded up."""
    check_amount(net)
    check_rate(rate)
    return (net * rate + 500) // 1000


def net_of(gross, rate):
    """The greatest net that with its tax is at most gross."""
    check_amount(gross)
    check_rate(rate)
    # (1000 * net + net * rate + 500) // 1000 is at most gross just if this holds of net.
    return (1000 * gross + 499) // (1000 + rate)
