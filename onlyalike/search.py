"""A search, layer by layer, for a shortest way to what is not GOOD."""

from onlyalike.errors import TooMany

MOST_MET = 20000


class Search:
    """A search through JOINTS, or STANDINGS; the classes below it tell which are GOOD, and what comes behind each."""

    def __init__(self):
        # What is known to lead to nothing that is not GOOD, and what is known to lead there.
        self.settled = {}
        self.parted = {}
        # What the search has come to, and for each the index of the one ahead and the item there.
        self.met = []
        self.steps_back = []
        # The index of the last one on the way that was found.
        self.last_at = 0

    def is_end_good(self, node):
        """Whether a list may end here."""
        return True

    def nodes_behind(self, node):
        """For each KIND a pair of an item and of what one comes to by it, None if that is not GOOD."""
        return []

    def is_faulty(self, node):
        """Whether what was come to newly is not GOOD, or is known to lead to what is not."""
        return node is None or node in self.parted or not self.is_end_good(node)

    def is_closed_lot(self, start, nodes):
        """Whether all to which one comes from some is among them, this one, too, and all of them are GOOD."""
        lot = {node: True for node in nodes}
        if start not in lot:
            return False
        for node in nodes:
            behind = [following for _, following in self.nodes_behind(node)]
            if not self.is_end_good(node) or not all([following in lot for following in behind]):
                return False
        return True

    def way_back(self, at, item):
        """The items by which one came to what has this index, and one more."""
        items = [item]
        while at > 0:
            at, ahead = self.steps_back[at]
            items.append(ahead)
        items.reverse()
        return items

    def faulty_way(self, start, most=MOST_MET):
        """The items of a shortest way to what is not GOOD, each as it is where it comes, or None; TooMany beyond most.

        Once is_fine was asked, a way may end at what is only known to lead on to what is not GOOD.
        """
        self.met = [start]
        self.steps_back = [(0, 0)]
        self.last_at = 0
        seen = {start: True}
        if self.is_faulty(start):
            return []
        at = 0
        layer_end = 0
        while at < len(self.met):
            # Only here it is known that no way to a fault is as short as those to what is met.
            if at == layer_end:
                layer_end = len(self.met)
                if layer_end > most:
                    raise TooMany(most)
            behind = self.nodes_behind(self.met[at])
            for item, node in behind:
                if node in seen or node in self.settled:
                    continue
                if self.is_faulty(node):
                    self.last_at = at
                    return self.way_back(at, item)
                # One too many is enough to be told, at the end of the layer.
                if len(self.met) <= most:
                    seen[node] = True
                    self.met.append(node)
                    self.steps_back.append((at, item))
            at += 1
        return None

    def is_fine(self, start, most=MOST_MET):
        """Whether one comes to nothing that is not GOOD; what is learned is kept. TooMany beyond most."""
        if start in self.settled:
            return True
        if self.faulty_way(start, most) is None:
            for node in self.met:
                self.settled[node] = True
            return True
        at = self.last_at
        self.parted[self.met[at]] = True
        while at > 0:
            at = self.steps_back[at][0]
            self.parted[self.met[at]] = True
        return False
