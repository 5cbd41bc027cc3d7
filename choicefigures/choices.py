"""In how many ways so many of so many are chosen, and what a prime says of it."""

from choicefigures.errors import TooMany
from choicefigures.figures import carries, check_many, check_prime

MOST_THINGS = 400


def has_choice(many, some):
    return some >= 0 and some <= many


def choices(many, some):
    check_many(many)
    if many > MOST_THINGS:
        raise TooMany(f"{many} things are more than {MOST_THINGS}")
    if not has_choice(many, some):
        return 0
    ways = 1
    # Behind each step the ways are choices again, so the division leaves nothing.
    for taken in range(min(some, many - some)):
        ways = ways * (many - taken) // (taken + 1)
    return ways


def rest(many, some, prime):
    check_prime(prime)
    check_many(many)
    if not has_choice(many, some):
        return 0
    product = 1
    # By Lucas the choices of the figures, place by place, leave the same when they are multiplied.
    while some > 0:
        product = product * choices(many % prime, some % prime) % prime
        many = many // prime
        some = some // prime
    return product


def power(many, some, prime):
    check_prime(prime)
    check_many(many)
    if not has_choice(many, some):
        return None
    return carries(some, many - some, prime)


def last(many, some, prime):
    check_prime(prime)
    check_many(many)
    if not has_choice(many, some):
        return None
    orders = figure_orders(prime)
    upper = order_last(many, prime, orders)
    lower = order_last(some, prime, orders) * order_last(many - some, prime, orders)
    return quotient(upper, lower, prime)


def figure_orders(prime):
    orders = [1]
    for figure in range(1, prime):
        orders.append(orders[-1] * figure % prime)
    return orders


def order_last(number, prime, orders):
    product = 1
    while number > 0:
        product = product * orders[number % prime] % prime
        number = number // prime
        # By Wilson the numbers between two neighbouring multiples of the prime come to one below it,
        # which is its own opposite: an even number of such rounds comes to one.
        if number % 2 == 1:
            product = product * (prime - 1) % prime
    return product


def quotient(upper, lower, prime):
    # The prime goes into neither, so just one figure from one on fits.
    figure = 1
    while figure * lower % prime != upper:
        figure = figure + 1
    return figure
