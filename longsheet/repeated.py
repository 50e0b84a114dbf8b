"""What is told again and again, row by row: matrices that are put to a vector many times without going through all."""


def applied(matrix, vector, times, once):
    """The vector behind so many times; once(matrix, vector) is what one time makes of it."""
    while times > 0:
        if times & 1:
            vector = once(matrix, vector)
        times = times // 2
        if times > 0:
            matrix = joined(matrix, matrix, once)
    return vector


def joined(later, first, once):
    """The matrix that does at once what first and then later does."""
    columns = [once(later, [line[at] for line in first]) for at in range(len(first))]
    return [[column[at] for column in columns] for at in range(len(first))]


def needed_for(asked, told_by):
    """The list of all on which what is asked rests from row to row; told_by(thing) lists those of the row ahead."""
    needed = [asked]
    at = 0
    while at < len(needed):
        others = told_by(needed[at])
        for other in others:
            if other not in needed:
                needed.append(other)
        at += 1
    return needed
