"""Grids of piles, and folding them.

A grid is a list of lines, each a list of piles from the left; a pile is a
list of cards from its top.
"""

from turnedcards.rows import side_of

# The sides from which is folded; from the bottom is the last one.
RIGHT = 1
BOTTOM = 3


def is_grid(height, width, size):
    return height >= 1 and width >= 1 and height * width == size


def laid(row, height, width):
    grid = []
    for line in range(height):
        grid.append([[card] for card in row[line * width:(line + 1) * width]])
    return grid


def columns_of(grid):
    """The columns, from the left, as lists of piles from the top; of columns, the lines."""
    columns = []
    for place in range(len(grid[0])):
        columns.append([line[place] for line in grid])
    return columns


def turned_pile(pile):
    return [-card for card in reversed(pile)]


def turned_over(piles):
    """A line or a column with all its piles turned over, each where it lies."""
    return [turned_pile(pile) for pile in piles]


def first_folded(strips, number):
    """Lines or columns, behind the first so many are turned over onto the others."""
    none = [[] for pile in strips[0]]
    above = [turned_over(piles) for piles in reversed(strips[:number])]
    below = strips[number:]
    result = []
    for place in range(max(len(above), len(below))):
        upper = above[place] if place < len(above) else none
        lower = below[place] if place < len(below) else none
        result.append([one + other for one, other in zip(upper, lower)])
    return result


def is_fold(grid, side, number):
    if side < 0 or side > BOTTOM:
        return False
    strips = len(grid[0]) if side <= RIGHT else len(grid)
    return number >= 1 and number < strips


def folded_once(grid, side, number):
    strips = columns_of(grid) if side <= RIGHT else grid
    if side % 2 == 0:
        strips = first_folded(strips, number)
    else:
        # From the right and from the bottom, all goes the other way round.
        strips = list(reversed(first_folded(list(reversed(strips)), number)))
    return columns_of(strips) if side <= RIGHT else strips


def folded(grid, folds):
    """The grid behind all folds, told by twos; empty if one of them is none."""
    if len(folds) % 2 == 1:
        return []
    for side, number in zip(folds[::2], folds[1::2]):
        if not is_fold(grid, side, number):
            return []
        grid = folded_once(grid, side, number)
    return grid


def alike_when_folded(row, width):
    """The cards that lie as the first one does, rising, in whatever way the grid is folded to one pile."""
    # A fold changes both a card's side and whether its line and column together are even.
    alike = []
    for place, card in enumerate(row):
        changes = place // width + place % width + side_of(card) + side_of(row[0])
        if changes % 2 == 0:
            alike.append(abs(card))
    return sorted(alike)
