"""Linear formulas as a constant and what they read, each with its weight."""

from longsheet.formulas import parts


def terms_of(formula):
    """The tuple (constant, terms) of a linear formula that is no input, terms being a list of tuples (weight, read)."""
    word = formula[0]
    if word == "number":
        return (formula[1], [])
    if word == "name":
        return (0, [(1, formula)])
    if word == "total":
        return (0, [(1, formula[1])])
    factor = formula[1] if word == "times" else 1
    constant, terms = 0, []
    for part in parts(formula):
        more, others = terms_of(part)
        constant = constant + factor * more
        terms.extend([(factor * weight, read) for weight, read in others])
    return (constant, terms)


def without_zeros(weights):
    """The dict with ascending keys of the weights that are not 0."""
    return {here: weights[here] for here in sorted(weights) if weights[here] != 0}
