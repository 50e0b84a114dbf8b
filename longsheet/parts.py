"""Parts: columns that lead to each other, and which way their loops go."""

from longsheet.heights import edges_within, falls, least_starts


def parts(web):
    """The list of the parts of a Web, each behind those to which an edge leads from it."""
    waiting = _groups(web)
    found = []
    while waiting:
        following = [group for group in waiting if not _leads_to_others(web, group, waiting)][0]
        found.append(following)
        waiting = [group for group in waiting if group != following]
    return found


def way(web, part):
    """"alone", "up", "down" or "ring", by the sums of the loops of a part."""
    edges = edges_within(web, part)
    if not edges:
        return "alone"
    if _can_fall(part, edges, len(part)):
        return "up"
    return "down" if _can_fall(part, edges, -len(part)) else "ring"


def _can_fall(part, edges, step):
    told = falls(edges, step)
    return told is not None and least_starts(part, told) is not None


def _groups(web):
    led = _led_to(web)
    columns = list(range(len(web)))
    groups = [[other for other in columns if other == here or (led[here][other] and led[other][here])]
              for here in columns]
    return [group for here, group in enumerate(groups) if group[0] == here]


def _led_to(web):
    """A list that has for each column a list of truths: whether edges lead from it to each column."""
    columns = list(range(len(web)))
    led = [[False] * len(web) for _ in columns]
    for edge in web.edges():
        led[edge[0]][edge[1]] = True
    for between in columns:
        for here in columns:
            if led[here][between]:
                led[here] = [one or other for one, other in zip(led[here], led[between])]
    return led


def _leads_to_others(web, group, groups):
    others = [column for other in groups if other != group for column in other]
    return any([edge[0] in group and edge[1] in others for edge in web.edges()])
