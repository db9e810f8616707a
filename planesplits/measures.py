"""How large the parts of trees are, and fractions in lowest terms.

Here a tree is told by its ROWS: for each node, in reading order, the tuple of its parts, in which all that matters is
where None stands.
"""


def sizes_of(rows):
    """Return the list of how many nodes each node and its parts have."""
    sizes = []
    # Backwards a node comes just behind its parts, the first one last: so theirs are the last numbers on the pile.
    pile = []
    for parts in rows[::-1]:
        size = 1
        for part in parts:
            if part is not None:
                size += pile.pop()
        pile.append(size)
        sizes.append(size)
    return sizes[::-1]


def parts_below(number, sizes):
    """Return the list of the numbers of the parts of a node with a number, without those that are None."""
    numbers = []
    # In reading order each part begins where the one before it ends.
    start = number + 1
    while start < number + sizes[number]:
        numbers.append(start)
        start += sizes[start]
    return numbers


def factorial(many):
    """Return the product of all numbers from 1 on, so many."""
    product = 1
    for number in range(2, many + 1):
        product *= number
    return product


def greatest_divisor(one, other):
    """Return the greatest number that divides two numbers, which are not both 0."""
    while other > 0:
        one, other = other, one % other
    return one


def lowest(top, bottom):
    """Return the fraction of two numbers in lowest terms."""
    divisor = greatest_divisor(top, bottom)
    return (top // divisor, bottom // divisor)


def added(one, other):
    """Return the sum of two fractions in lowest terms."""
    return lowest(one[0] * other[1] + other[0] * one[1], one[1] * other[1])
