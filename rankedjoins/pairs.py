"""Whether two pieces stay apart when they stand side by side."""


def spine(joins, piece, side):
    """(x, bound) for the piece and its outermost parts on this side (0 left, 1 right), from the outside in."""
    steps = [(piece, None)]
    parts = joins.parts_of(piece)
    while parts is not None:
        left, right = parts
        steps.append((parts[side], joins.rank_of(left, right)))
        parts = joins.parts_of(parts[side])
    return tuple(steps)


def right_spine(joins, piece):
    """(x, bound) for the piece and its right parts, bound being the rank of the join that makes the piece around x."""
    return spine(joins, piece, 1)


def left_spine(joins, piece):
    """(x, bound) for the piece and its left parts, bound being the rank of the join that makes the piece around x."""
    return spine(joins, piece, 0)


def joins_in_time(rank, left_bound, right_bound):
    """Whether this join comes ahead of those that use up its two parts inside of their own pieces."""
    # Of places of one rank the leftmost goes first: one inside of left comes ahead of the crossing one, which comes
    # ahead of one inside of right.
    ahead_on_left = left_bound is None or rank < left_bound
    ahead_on_right = right_bound is None or rank <= right_bound
    return ahead_on_left and ahead_on_right


def crossing(joins, left, right):
    """The rank of the first join that puts letters of both pieces together, None if none does."""
    left_steps = right_spine(joins, left)
    right_steps = left_spine(joins, right)
    ranks = []
    for x, left_bound in left_steps:
        for y, right_bound in right_steps:
            rank = joins.rank_of(x, y)
            if rank is not None and joins_in_time(rank, left_bound, right_bound):
                ranks.append(rank)
    return min(ranks, default=None)


def side_by_side(joins, left, right):
    """Whether the cut of the text of the two pieces is these two."""
    return crossing(joins, left, right) is None
