"""Spots: the sheets that lie somewhere with their holders, and the rows of places in which they lie."""


class Sheet:
    def __init__(self, boxes, holder):
        self.boxes = list(boxes)
        # A dict of True by holders.
        self.holders = {holder: True}

    def told_holders(self):
        return sorted(self.holders)

    def is_banked(self):
        return any([holder[0] == "bank" for holder in self.holders])


class Spots:
    def __init__(self, many):
        # The sheet in each place or None; and the place of another row that is twin with it, or None.
        self.lying = [None] * many
        self.twins = [None] * many

    def first_empty(self):
        for place, sheet in enumerate(self.lying):
            if sheet is None and self.twins[place] is None:
                return place
        return None

    def first_twin(self):
        for twin in self.twins:
            if twin is not None:
                return twin
        return None

    def live_count(self):
        return len([sheet for sheet in self.lying if sheet is not None])
