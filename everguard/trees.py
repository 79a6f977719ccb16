"""Halved trees: of each set of bits there is just one."""


def holds(tree, values):
    """Whether the tree comes to True with the values."""
    while tree is not True and tree is not False:
        tree = tree[2] if values[tree[0]] == 1 else tree[1]
    return tree


def both(order, one, other):
    """The tree of the bits with which both trees come to True."""
    forest = Forest(order)
    return forest.tree_at(forest.chosen(forest.taken(one), forest.taken(other), 0))


def either(order, one, other):
    """The tree of the bits with which one of the trees comes to True, or both do."""
    forest = Forest(order)
    return forest.tree_at(forest.chosen(forest.taken(one), 1, forest.taken(other)))


def opposite(tree):
    """The tree of the bits with which this one comes to False."""
    return opposite_by(tree, {})


def opposite_by(tree, known):
    """The same; known has the opposites that were made already, so a tree in several places is gone into once."""
    if tree is True:
        return False
    if tree is False:
        return True
    made = known.get(tree)
    if made is None:
        made = (tree[0], opposite_by(tree[1], known), opposite_by(tree[2], known))
        known[tree] = made
    return made


def some_of(order, tree, names):
    """The tree of the bits with which this one comes to True for some bits of the names."""
    forest = Forest(order)
    gone = dict([(name, True) for name in names])
    return forest.tree_at(forest.without(forest.taken(tree), gone, {}))


def put_for(order, tree, given):
    """The tree with each name of the dict replaced by its tree, all at once."""
    forest = Forest(order)
    trees = dict([(name, forest.taken(part)) for name, part in given.items()])
    return forest.tree_at(forest.replaced(forest.taken(tree), trees, {}))


class Forest:
    """Trees over one order as numbers: 0 is False, 1 is True, and a further number stands for just one tree."""

    def __init__(self, order):
        self.names = list(order)
        self.spots = dict([(name, spot) for spot, name in enumerate(order)])
        # For each number the place of its name in the order, its low and its high; False and True are behind all names.
        self.nodes = [(len(self.names), 0, 0), (len(self.names), 1, 1)]
        self.known = {}
        self.choices = {}
        self.imported = {}
        self.exported = {0: False, 1: True}

    def node(self, spot, low, high):
        """The number of the tree of a name's place, low and high."""
        if low == high:
            return low
        key = (spot, low, high)
        number = self.known.get(key)
        if number is None:
            number = len(self.nodes)
            self.nodes.append(key)
            self.known[key] = number
        return number

    def leaf_of(self, name):
        """The number of the tree that holds where the name is 1."""
        return self.node(self.spots[name], 0, 1)

    def taken(self, tree):
        """The number of a tree."""
        if tree is True:
            return 1
        if tree is False:
            return 0
        number = self.imported.get(tree)
        if number is None:
            number = self.node(self.spots[tree[0]], self.taken(tree[1]), self.taken(tree[2]))
            self.imported[tree] = number
        return number

    def tree_at(self, number):
        """The tree of a number."""
        tree = self.exported.get(number)
        if tree is None:
            node = self.nodes[number]
            tree = (self.names[node[0]], self.tree_at(node[1]), self.tree_at(node[2]))
            self.exported[number] = tree
        return tree

    def chosen(self, test, high, low):
        """The tree that is the high one where the test holds, and the low one where it does not."""
        if test == 1 or high == low:
            return high
        if test == 0:
            return low
        key = (test, high, low)
        number = self.choices.get(key)
        if number is None:
            spot = min(self.nodes[test][0], self.nodes[high][0], self.nodes[low][0])
            lows = self.chosen(self.half(test, spot, 1), self.half(high, spot, 1), self.half(low, spot, 1))
            highs = self.chosen(self.half(test, spot, 2), self.half(high, spot, 2), self.half(low, spot, 2))
            number = self.node(spot, lows, highs)
            self.choices[key] = number
        return number

    def half(self, number, spot, side):
        """The low or the high of a tree, by the side 1 or 2, for the name of this place."""
        node = self.nodes[number]
        return node[side] if node[0] == spot else number

    def without(self, number, gone, made):
        """The tree for some bits of the names that are gone; made has what was made already by the same names."""
        if number < 2:
            return number
        if number not in made:
            node = self.nodes[number]
            low = self.without(node[1], gone, made)
            high = self.without(node[2], gone, made)
            is_gone = self.names[node[0]] in gone
            made[number] = self.chosen(low, 1, high) if is_gone else self.node(node[0], low, high)
        return made[number]

    def replaced(self, number, trees, made):
        """The tree with trees for names; made has what was made already by the same trees."""
        if number < 2:
            return number
        if number not in made:
            node = self.nodes[number]
            low = self.replaced(node[1], trees, made)
            high = self.replaced(node[2], trees, made)
            name = self.names[node[0]]
            made[number] = self.chosen(trees[name] if name in trees else self.leaf_of(name), high, low)
        return made[number]

    def way_in(self, number, fixed):
        """Bits for the names on a way to True, where those of the dict fixed have theirs; there must be one."""
        bits = {}
        while number > 1:
            node = self.nodes[number]
            name = self.names[node[0]]
            bits[name] = fixed.get(name, 1 if node[1] == 0 else 0)
            number = node[1 + bits[name]]
        return bits

    def names_in(self, number):
        """A dict of the names that the tree asks for."""
        found = {}
        seen = {}
        waiting = [number]
        while len(waiting) > 0:
            number = waiting.pop()
            if number > 1 and number not in seen:
                seen[number] = True
                node = self.nodes[number]
                found[self.names[node[0]]] = True
                waiting.extend([node[1], node[2]])
        return found
