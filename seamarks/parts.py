"""Parts and spots: worth and place told by whole numbers in lowest terms."""


def common_factor(numbers):
    shared = 0
    for number in numbers:
        rest = abs(number)
        while rest != 0:
            smaller = shared % rest
            shared = rest
            rest = smaller
    return shared


def lowest(numbers):
    shared = common_factor(numbers)
    # The factor is above nought, so every sign stays as it is: a direction never turns about.
    return tuple([number // shared for number in numbers])


def upright(numbers):
    # What is divided by stands last; one worth is to have one form, so it must not be below nought.
    if numbers[-1] < 0:
        return lowest([-number for number in numbers])
    return lowest(numbers)


def part(top, bottom):
    return upright((top, bottom))


def plus(one, other):
    return part(one[0] * other[1] + other[0] * one[1], one[1] * other[1])


def times(one, other):
    return part(one[0] * other[0], one[1] * other[1])


def below(one, other):
    return one[0] * other[1] < other[0] * one[1]


def spot(x, y, w):
    return upright((x, y, w))


def ahead(one, other):
    east = one[0] * other[2] - other[0] * one[2]
    if east != 0:
        return east < 0
    return one[1] * other[2] < other[1] * one[2]


def merged(ones, others):
    told = []
    taken = 0
    for other in others:
        while taken < len(ones) and not ahead(other, ones[taken]):
            told.append(ones[taken])
            taken = taken + 1
        told.append(other)
    return told + ones[taken:]


def in_order(spots):
    # Python's own order of triples is another one, and spots of unlike w have no short key to sort by.
    if len(spots) < 2:
        return list(spots)
    middle = len(spots) // 2
    return merged(in_order(spots[:middle]), in_order(spots[middle:]))
