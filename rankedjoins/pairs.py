"""Whether two pieces stay apart when they stand side by side."""


def spine(joins, piece, side):
    """(x, bound) for the piece and its outermost parts on this side (0 left, 1 right), from the outside in."""
    steps = [(piece, None)]
    parts = joins.parts_of(piece)
    while parts is not None:
        left, right = parts
        steps.append((parts[side], joins.rank_of(left, right)))
        parts = joins.parts_of(parts[side])
    return tuple(steps)


def right_spine(joins, piece):
    """(x, bound) for the piece and its right parts, bound being the rank of the join that makes the piece around x."""
    return spine(joins, piece, 1)


def left_spine(joins, piece):
    """(x, bound) for the piece and its left parts, bound being the rank of the join that makes the piece around x."""
    return spine(joins, piece, 0)


def is_ahead_in_left(rank, bound):
    """Whether this join comes ahead of the one with this bound that uses up its left part inside of the left one."""
    # Of places of one rank the leftmost goes first: one inside of left comes ahead of the crossing one.
    return bound is None or rank < bound


def is_ahead_in_right(rank, bound):
    """Whether this join comes ahead of the one with this bound that uses up its right part inside of the right one."""
    # Of places of one rank the leftmost goes first: the crossing one comes ahead of one inside of right.
    return bound is None or rank <= bound


def crossing(joins, left, right):
    """The rank of the first join that puts letters of both pieces together, None if none does."""
    left_steps = right_spine(joins, left)
    right_steps = left_spine(joins, right)
    ranks = []
    for x, left_bound in left_steps:
        for y, right_bound in right_steps:
            rank = joins.rank_of(x, y)
            if rank is not None and is_ahead_in_left(rank, left_bound) and is_ahead_in_right(rank, right_bound):
                ranks.append(rank)
    return min(ranks, default=None)


def side_by_side(joins, left, right):
    """Whether the cut of the text of the two pieces is these two."""
    return crossing(joins, left, right) is None


def following_masks(joins):
    """For each piece a number in which bit q is set if piece q is side by side with it, on its right."""
    # Asking side_by_side for all pairs would go over the same spines again and again.
    right_bounds = [dict(right_spine(joins, piece)) for piece in range(joins.pieces)]
    left_bounds = [dict(left_spine(joins, piece)) for piece in range(joins.pieces)]
    masks = [(1 << joins.pieces) - 1 for _ in range(joins.pieces)]
    for rank, (left, right) in enumerate(joins):
        crossed = 0
        for piece, bounds in enumerate(left_bounds):
            if right in bounds and is_ahead_in_right(rank, bounds[right]):
                crossed += 1 << piece
        for piece, bounds in enumerate(right_bounds):
            if left in bounds and is_ahead_in_left(rank, bounds[left]):
                masks[piece] &= ~crossed
    return tuple(masks)


def choices_behind(joins):
    """For each piece the pieces that may follow it in a cut, ascending; in the last entry those that may begin one."""
    masks = following_masks(joins)
    choices = [tuple([piece for piece in range(joins.pieces) if mask >> piece & 1]) for mask in masks]
    return tuple(choices) + (tuple(range(joins.pieces)),)
