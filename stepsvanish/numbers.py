"""Prime numbers, prime factors of small integers, and common divisors."""


def factored(number):
    """The prime factors of an integer of at least 1, as tuples (prime, exponent)."""
    factors = []
    rest = number
    divisor = 2
    while divisor * divisor <= rest:
        exponent = 0
        while rest % divisor == 0:
            rest = rest // divisor
            exponent = exponent + 1
        if exponent > 0:
            factors.append((divisor, exponent))
        divisor = divisor + 1
    if rest > 1:
        factors.append((rest, 1))
    return factors


def is_prime(number):
    """True if the integer is a prime number."""
    if number < 2:
        return False
    divisor = 2
    while divisor * divisor <= number:
        if number % divisor == 0:
            return False
        divisor = divisor + 1
    return True


def is_power(number, prime):
    """True if the integer of at least 1 is a power of the prime, possibly 1."""
    rest = number
    while rest % prime == 0:
        rest = rest // prime
    return rest == 1


def bezout(first, second):
    """The greatest common divisor d with integers s, t: d = s first + t second."""
    old = (first, 1, 0)
    new = (second, 0, 1)
    while new[0] != 0:
        factor = old[0] // new[0]
        old, new = new, tuple([a - factor * b for a, b in zip(old, new)])
    return old
