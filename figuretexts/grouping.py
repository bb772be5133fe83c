"""Where a custom parts the figures ahead of the point into groups."""


def group_gaps(many, custom):
    """Of so many figures ahead of the point: the rising counts of figures behind which a group sign stands."""
    if custom.group == "" or many < custom.sizes[0] + custom.least:
        return []
    gaps = []
    turn = 0
    gap = many - custom.sizes[0]
    while gap > 0:
        gaps.append(gap)
        turn = min(turn + 1, len(custom.sizes) - 1)
        gap -= custom.sizes[turn]
    return list(reversed(gaps))


def in_groups(figures, custom):
    """These figures ahead of the point, with the group signs between them."""
    parts = []
    start = 0
    for gap in group_gaps(len(figures), custom):
        parts.append(figures[start:gap])
        start = gap
    parts.append(figures[start:])
    return custom.group.join(parts)
