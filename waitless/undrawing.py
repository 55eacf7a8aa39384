"""Undrawing: loops drawn together, and papers that show of the others that they can't be."""

from waitless.drawing import are_all_one, ask_loop, pushes_done
from waitless.folding import Folding
from waitless.judging import is_list, is_number
from waitless.polygons import cutting_of, HOLES_LEAST, is_tie, longest_stretch, makes_cutting, ring_of, word_of
from waitless.surfaces import ask_small, ask_surface, double_of, kind_of, ties_of, way_over


def drawn(surface, loop):
    """The list of pushes that draw loop together, None if there is none."""
    ask_loop_on(surface, loop)
    return told_of_loop(surface, loop)[0]


def undrawn(surface, loop):
    """A paper that shows that loop can't be drawn together, None if it can."""
    ask_loop_on(surface, loop)
    return told_of_loop(surface, loop)[1]


def is_undrawn(surface, loop, thing):
    """Whether thing, of any value, is a paper that shows that loop can't be drawn together."""
    ask_loop_on(surface, loop)
    return shows_undrawn(surface, loop, thing)


def ask_loop_on(surface, loop):
    """BadSurface, BadLoop, and TooMany(None) for a surface with one side that is too great to be doubled."""
    ask_surface(surface)
    ask_loop(surface, loop)
    if kind_of(surface)[0] == 1:
        ask_small(surface)


def told_of_loop(surface, loop):
    """The pair of the pushes that draw loop together and of the paper that it can't be; one of them is None."""
    if kind_of(surface)[0] == 2:
        return told_of_two_sides(surface, loop)
    over = double_of(surface)
    lifted = way_over(over, loop)
    if lifted[0] != lifted[-1]:
        return (None, ("weights", 2, weights_of_sides(surface, over)))
    pushes, paper = told_of_two_sides(over, lifted)
    if paper is not None:
        return (None, ("double", paper))
    return ([push[:2] + tuple([place // 2 for place in push[2:]]) for push in pushes], None)


def told_of_two_sides(surface, loop):
    """The same pair for a surface with two sides."""
    cutting = cutting_of(surface)
    folding = Folding(surface, cutting, loop)
    if are_all_one(folding.fold()):
        return (folding.pushes, None)
    letters = folding.letters()
    for one, other in letters:
        # Each letter counts for itself, as the rim goes over it once in each direction.
        if letters.count((one, other)) != letters.count((other, one)):
            tie = (min(one, other), max(one, other))
            return (None, ("weights", 0, weights_of_letter(surface, cutting, tie)))
    return (None, ("word", cutting, folding.pushes))


def weights_of_letter(surface, cutting, letter):
    """The dict from all ties to weights that count how often a way goes over one letter of cutting."""
    weights = {tie: 0 for tie in surface.ties if tie not in cutting[1]}
    weights[letter] = 1
    while len(weights) < len(surface.ties):
        for triangle in surface.triangles:
            told = [tie for tie in ties_of(triangle) if tie in weights]
            if len(told) == 2:
                # Triangles hang together over crossed ties without a round, so that some have but one of them left.
                low, high, across = ties_of(triangle)
                if across not in weights:
                    weights[across] = weights[low] + weights[high]
                elif low not in weights:
                    weights[low] = weights[across] - weights[high]
                else:
                    weights[high] = weights[across] - weights[low]
    return {tie: weights[tie] for tie in surface.ties}


def weights_of_sides(surface, over):
    """The dict from all ties to weights, odd for those that lead from places 2 * p over them to places 2 * q + 1."""
    return {tie: 0 if over.are_spot((2 * tie[0], 2 * tie[1])) else 1 for tie in surface.ties}


def shows_undrawn(surface, loop, thing):
    """Whether thing is a paper that loop can't be drawn together."""
    if not isinstance(thing, tuple) or not 2 <= len(thing) <= 3 or not isinstance(thing[0], str):
        return False
    if thing[0] == "weights" and len(thing) == 3:
        return are_weights(surface, thing[2], thing[1]) and not is_nothing(count_along(thing[2], loop), thing[1])
    if thing[0] == "word" and len(thing) == 3:
        return is_word_left(surface, loop, thing[1], thing[2])
    if thing[0] == "double" and len(thing) == 2 and kind_of(surface)[0] == 1:
        over = double_of(surface)
        lifted = way_over(over, loop)
        return lifted[0] == lifted[-1] and shows_undrawn(over, lifted, thing[1])
    return False


def are_weights(surface, weights, modulus):
    """Whether weights is a dict from all ties to numbers that count nothing round each triangle."""
    if not is_number(modulus) or modulus not in (0, 2) or not isinstance(weights, dict):
        return False
    # Keys must be ties before any is looked up: True would be found in the place of 1.
    if len(weights) != len(surface.ties) or not all([is_tie(surface, tie) for tie in weights]):
        return False
    if not all([is_number(weight) for weight in weights.values()]):
        return False
    return all([is_nothing(count_along(weights, (low, middle, high, low)), modulus)
                for low, middle, high in surface.triangles])


def count_along(weights, way):
    """What the steps of way count."""
    total = 0
    for at in range(len(way) - 1):
        one, other = way[at], way[at + 1]
        if one < other:
            total += weights[(one, other)]
        elif one > other:
            total -= weights[(other, one)]
    return total


def is_nothing(number, modulus):
    """Whether number is nothing, or just even if the modulus is 2."""
    if modulus == 2:
        return number % 2 == 0
    return number == 0


def is_word_left(surface, loop, cutting, pushes):
    """Whether pushes lead loop to a way the word of which is not nothing, and can't be made shorter."""
    sides, holes = kind_of(surface)
    if sides == 1 or holes < HOLES_LEAST or not makes_cutting(surface, cutting) or not is_list(pushes):
        return False
    places = list(loop)
    if pushes_done(surface, places, pushes) < len(pushes):
        return False
    letters = word_of(cutting, places)
    if letters is None or len(letters) == 0:
        return False
    ring = ring_of(surface, cutting)
    return 2 * longest_stretch(letters, ring)[1] <= len(ring)
