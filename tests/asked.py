"""What the tests ask with: primes, numbers and refusals, told apart from the program's own tables."""

from choicefigures.errors import ChoiceError, NoMany, NoPlace, NoPrime, TooMany

GREATEST = 10 ** 30
REFUSALS = (NoPrime, NoMany, NoPlace, TooMany)


def is_prime(number):
    return number > 1 and all(number % divisor for divisor in range(2, number))


PRIMES = [number for number in range(2, 98) if is_prime(number)]

NO_PRIMES = [number for number in range(-100, 98) if not is_prime(number)] + [
    98, 99, 100, 101, 103, 107, 121, 127, 169, 997, 9409, 2 ** 31 - 1, 2 ** 61 - 1, 2 ** 89 - 1,
    GREATEST - 1, GREATEST, GREATEST + 1, 10 ** 40 - 1,
    -101, -997, -2 ** 61, 1 - GREATEST, -GREATEST, -GREATEST - 1, 1 - 10 ** 40,
]

NO_MANY = [
    -1, -2, -7, -97, -100, -10 ** 9, 1 - GREATEST, -GREATEST, -GREATEST - 1, 1 - 10 ** 40,
    GREATEST + 1, GREATEST + 2, GREATEST + 97, 2 * GREATEST, 10 ** 31, 10 ** 40 - 1,
]


def powers(prime):
    """All powers of the prime up to the greatest number, 1 among them."""
    told = [1]
    while told[-1] * prime <= GREATEST:
        told.append(told[-1] * prime)
    return told


def numbers(prime):
    """Ordinary numbers and edges for this prime, each from 0 to 10 ** 30."""
    told = list(range(0, 130))
    for power in powers(prime):
        for times in (1, 2, prime - 1):
            told += [times * power - 1, times * power, times * power + 1]
        told += [power + 5, power * (prime + 1), 7 * power * power]
    told += [123456789, 10 ** 15, 987654321987654321, GREATEST // 2, GREATEST // 3]
    told += [GREATEST - prime, GREATEST - 2, GREATEST - 1, GREATEST]
    return sorted({number for number in told if 0 <= number <= GREATEST})


def few_numbers(prime):
    """A smaller choice of the same, for the tests that take them two by two."""
    told = numbers(prime)
    return told[:prime + 2] + told[prime + 2::len(told) // 40] + told[-6:]


def check_refused(test, refusal, function, *arguments):
    """The call is refused with just this class of the four, and with those above it."""
    with test.subTest(function=function.__name__, arguments=arguments):
        with test.assertRaises(ChoiceError) as caught:
            function(*arguments)
        test.assertIsInstance(caught.exception, ValueError)
        met = [each for each in REFUSALS if isinstance(caught.exception, each)]
        test.assertEqual(met, [refusal])
