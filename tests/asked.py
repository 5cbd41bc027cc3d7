"""What the tests ask with: primes, numbers and refusals, told apart from the program's own tables."""

from choicefigures.errors import ChoiceError, NoMany, NoPlace, NoPrime, TooMany

GREATEST = 10 ** 30
REFUSALS = (NoPrime, NoMany, NoPlace, TooMany)


def is_prime(number):
    return number > 1 and all(number % divisor for divisor in range(2, number))


PRIMES = [number for number in range(2, 98) if is_prime(number)]

NO_PRIMES = [number for number in range(-100, 98) if not is_prime(number)] + [
    98, 99, 100, 101, 103, 107, 121, 127, 169, 997, 9409, 2 ** 31 - 1, 2 ** 61 - 1, 2 ** 89 - 1,
    GREATEST - 1, GREATEST, GREATEST + 1, 10 ** 40 - 1,
    -101, -997, -2 ** 61, 1 - GREATEST, -GREATEST, -GREATEST - 1, 1 - 10 ** 40,
]

NO_MANY = [
    -1, -2, -7, -97, -100, -10 ** 9, 1 - GREATEST, -GREATEST, -GREATEST - 1, 1 - 10 ** 40,
    GREATEST + 1, GREATEST + 2, GREATEST + 97, 2 * GREATEST, 10 ** 31, 10 ** 40 - 1,
]


def powers(prime):
    """All powers of the prime up to the greatest number, 1 among them."""
    told = [1]
    while told[-1] * prime <= GREATEST:
        told.append(told[-1] * prime)
    return told


def numbers(prime):
    """Ordinary numbers and edges for this prime, each from 0 to 10 ** 30."""
    told = list(range(0, 130))
    for power in powers(prime):
        for times in (1, 2, prime - 1):
            told += [times * power - 1, times * power, times * power + 1]
        told += [power + 5, power * (prime + 1), 7 * power * power]
    told += [123456789, 10 ** 15, 987654321987654321, GREATEST // 2, GREATEST // 3]
    told += [GREATEST - prime, GREATEST - 2, GREATEST - 1, GREATEST]
    return sorted({number for number in told if 0 <= number <= GREATEST})


def few_numbers(prime):
    """A smaller choice of the same, for the tests that take them two by two."""
    told = numbers(prime)
    return told[:prime + 2] + told[prime + 2::len(told) // 40] + told[-6:]


FAR = [GREATEST + 1, 10 ** 31 + 7, 10 ** 40 - 1]
FAR_OFF = FAR + [-number for number in FAR] + [-GREATEST]


def pascal_rows(most):
    """Pascal's rows of nought to so many things, by sums of neighbours."""
    row = [1]
    yield row
    for _ in range(most):
        row = [1] + [one + other for one, other in zip(row, row[1:])] + [1]
        yield row


def taken_apart(number, prime):
    """How often the prime goes into the number, and what is then left of it."""
    often = 0
    while number % prime == 0:
        number //= prime
        often += 1
    return often, number


def great_rows(prime):
    """Numbers of things of each sort, from small ones to 10 ** 30 itself."""
    told = [0, 1, 2, 3, prime - 1, prime, prime + 1, 100, 130, 123456789, 987654321987654321, GREATEST // 3]
    all_powers = powers(prime)
    for power in all_powers[1:4] + all_powers[len(all_powers) // 2:][:1] + all_powers[-2:]:
        for times in (1, 2, (prime + 1) // 2, prime - 1):
            told += [times * power - 1, times * power]
        told += [power + 1, power + 5, power + prime - 1, power * (prime + 1), power * 123456]
    told += [GREATEST - prime, GREATEST - 1, GREATEST]
    return sorted({number for number in told if 0 <= number <= GREATEST})


def under(many, prime):
    """Numbers with no figure above that of the things at the same place, and some with just one above it."""
    patterns = (
        lambda place, figure: figure // 2,
        lambda place, figure: figure if place % 2 else 0,
        lambda place, figure: 0 if place % 3 else figure,
        lambda place, figure: (7 * place + 3) % (figure + 1),
        lambda place, figure: min(figure, 1),
    )
    for pattern in patterns:
        told, left, unit, clear = 0, many, 1, None
        while left:
            left, figure = divmod(left, prime)
            told += pattern(unit.bit_length(), figure) * unit
            if figure == 0 and clear is None:
                clear = unit
            unit *= prime
        yield told
        if clear:
            yield told + clear


def chosen(many, prime):
    """Numbers of chosen ones, or places: about nought, about all, about half, and free ones."""
    told = [-10 ** 40 + 1, -GREATEST, -prime, -2, -1, 0, 1, 2, 3, prime - 1, prime, prime + 1]
    told += [many + more for more in (-prime, -2, -1, 0, 1, 2, prime)] + [10 ** 40 - 1]
    told += [many // 2 + more for more in (-1, 0, 1)] + [many // 3, many // prime, many - many // prime]
    told += list(under(many, prime))
    return sorted(set(told))


def check_refused(test, refusal, function, *arguments):
    """The call is refused with just this class of the four, and with those above it."""
    with test.subTest(function=function.__name__, arguments=arguments):
        with test.assertRaises(ChoiceError) as caught:
            function(*arguments)
        test.assertIsInstance(caught.exception, ValueError)
        met = [each for each in REFUSALS if isinstance(caught.exception, each)]
        test.assertEqual(met, [refusal])
