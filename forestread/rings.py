"""Rings of a wood, and the nodes that lead to none."""


def nodes_beneath(wood, node):
    found = []
    for way in wood.ways(node):
        found.extend(way)
    return found


# One walk through the nodes of a wood, from its top down and back up again.
class Walk:
    def __init__(self, wood):
        self.wood = wood
        # From the top to where the walk is now, and of each of these the nodes beneath that are still to be seen.
        self.path = []
        self.unseen = []
        # True for the nodes on the path, False for those that the walk has left for good.
        self.on_path = {}
        # The nodes that lead to a ring, all nodes in the order in which they were left, and the first ring met.
        self.leading = {}
        self.left = []
        self.met = None
        if wood.top() is not None:
            self.go_down(wood.top())

    def go_down(self, node):
        self.on_path[node] = True
        self.path.append(node)
        self.unseen.append(nodes_beneath(self.wood, node))

    def go_up(self):
        node = self.path.pop()
        self.unseen.pop()
        self.on_path[node] = False
        self.left.append(node)
        if node in self.leading and self.path:
            self.leading[self.path[-1]] = True

    # A node that has been left leads to a ring only where one was met, so the first ring met goes by the path.
    def meet(self, node):
        self.leading[self.path[-1]] = True
        if self.met is None:
            self.met = self.path[self.path.index(node):]

    def step(self):
        beneath = self.unseen[-1]
        while beneath:
            node = beneath.pop()
            if node not in self.on_path:
                self.go_down(node)
                return
            if self.on_path[node] or node in self.leading:
                self.meet(node)
        self.go_up()


def walked(wood):
    walk = Walk(wood)
    while walk.path:
        walk.step()
    return walk


# Like walked, but no further than to the first ring.
def walked_to_ring(wood):
    walk = Walk(wood)
    while walk.path and walk.met is None:
        walk.step()
    return walk


def ring(wood):
    return walked_to_ring(wood).met


def settled(wood):
    walk = walked(wood)
    return [node for node in walk.left if node not in walk.leading]
