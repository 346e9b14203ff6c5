"""What all modules need: kinds of plain values, and lists taken for tuples."""


def is_number(thing):
    """Whether thing is an integer; True and False are none."""
    return isinstance(thing, int) and not isinstance(thing, bool)


def is_tuple(thing, many):
    """Whether thing is a tuple of so many."""
    return isinstance(thing, tuple) and len(thing) == many


def is_tuple_of(thing, is_one):
    """Whether thing is a tuple, maybe (), of which is_one holds for each."""
    return isinstance(thing, tuple) and all([is_one(one) for one in thing])


def is_ascending(keys):
    """Whether each of keys is greater than the one before it."""
    return all([keys[at - 1] < keys[at] for at in range(1, len(keys))])


def is_table(thing, is_key, is_worth):
    """Whether thing is a tuple of pairs, each key once, ascending."""
    if not isinstance(thing, tuple):
        return False
    if not all([is_tuple(pair, 2) and is_key(pair[0]) and is_worth(pair[1]) for pair in thing]):
        return False
    # Only now are the keys known to be of one kind, so that they can be compared.
    return is_ascending([pair[0] for pair in thing])


def firm(value):
    """The value with a tuple in place of each list, at any depth."""
    if isinstance(value, (list, tuple)):
        return tuple([firm(part) for part in value])
    return value


def power_product(factors, powers, product, kept):
    """The product of the factors to these powers.

    kept holds, by their powers, the products found so far, at first only the
    one of the powers 0; what is found is added to it.
    """
    if powers not in kept:
        last = max([place for place in range(len(powers)) if powers[place] > 0])
        fewer = (*powers[:last], powers[last] - 1, *powers[last + 1:])
        before = power_product(factors, fewer, product, kept)
        kept[powers] = product(before, factors[last])
    return kept[powers]
