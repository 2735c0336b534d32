"""ROWS with which polynomials that are unlike have unlike values.

The rows are powers of unlike primes. Unlike products of them are unlike numbers, too, so that for great
powers the greatest one outweighs all others: for finitely many polynomials that are not 0 there
is a power from which on none of them comes to 0. So who tries power by power comes to an end.
"""

from everysource.quotients import lowest, whole_power


def primes(many):
    """The list of the first so many primes."""
    found = []
    number = 2
    while len(found) < many:
        if all(number % prime != 0 for prime in found):
            found.append(number)
        number += 1
    return found


def free_rows(many, c, k):
    """So many ROWS for c columns, of powers k of unlike primes."""
    numbers = [whole_power(prime, k) for prime in primes(many * c)]
    return tuple([tuple([(x, 1) for x in numbers[row * c:row * c + c]]) for row in range(many)])


def free_chances(many, c, k):
    """So many chances, 1 in all, as powers k of primes beyond those of free_rows for c columns."""
    numbers = [whole_power(prime, k) for prime in primes(many * c + many)[many * c:]]
    return [lowest(x, sum(numbers)) for x in numbers]
