"""The figures of numbers in the base of a prime, and what they tell of sums and products."""

from choicefigures.errors import NoMany, NoPrime

PRIMES = (2, 3, 5, 7, 11, 13, 17, 19, 23, 29, 31, 37, 41, 43, 47, 53, 59, 61, 67, 71, 73, 79, 83, 89, 97)


def check_prime(prime):
    if prime not in PRIMES:
        raise NoPrime(f"{prime} is no prime number from 2 to 97")


def check_many(number):
    if number < 0 or number > 10 ** 30:
        raise NoMany(f"{number} is no number from 0 to 10 ** 30")


def figures(number, prime):
    check_prime(prime)
    check_many(number)
    found = []
    left = number
    while left > 0:
        found.append(left % prime)
        left = left // prime
    return found


def carries(one, other, prime):
    check_prime(prime)
    check_many(one)
    check_many(other)
    count = 0
    carried = 0
    # Behind the last figure of both a carry is only written down: it is never carried on.
    while one > 0 or other > 0:
        carried = (one % prime + other % prime + carried) // prime
        count = count + carried
        one = one // prime
        other = other // prime
    return count


def order_power(number, prime):
    check_prime(prime)
    check_many(number)
    count = 0
    # Each multiple of the prime brings it once, each multiple of its square once more, and so on.
    left = number // prime
    while left > 0:
        count = count + left
        left = left // prime
    return count
