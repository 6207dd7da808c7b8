"""The least tables by which what is put together can be told apart.

Rows are one class if they have the same sign, and with all that can stand beside them the same is let and has the same
signs; so are states between two children. There are far fewer classes than rows.
"""

BARRED = -1


class Merged:
    """The classes of the rows of a growth that kept its steps, told apart by a sign of each row.

    signs: the sign of each class. one: the class of one thing alone, or None if there is no row. nodes: the nodes.
    tables: for each node, for each child, for each class of the states ahead of it, the dict of the classes of rows for
    that child and the class that each leads to; ahead of the first child there is the state 0.
    """

    def __init__(self, growth, signs):
        self.nodes = growth.folds.nodes
        rows = list(growth.rows)
        self.places = [Place(growth, place, rows) for place in growth.places]
        classes = numbered(signs)
        many = 0
        while many < len(set(classes)):
            many = len(set(classes))
            finer = self.signs_of(classes)
            classes = numbered(list(zip(classes, *finer)))
        self.one = classes[0] if rows else None
        self.signs = []
        for number, sign in zip(classes, signs):
            if number == len(self.signs):
                self.signs.append(sign)
        self.tables = self.tables_of(classes)

    def signs_of(self, classes):
        """Return, for each place, the list of what tells rows apart there, by the classes so far."""
        signs = []
        behind = classes
        for place in self.places[::-1]:
            if place.is_last:
                behind = classes
            signs.append(place.signs_of_rows(behind))
            behind = place.classes_of_states(behind)
        return signs

    def tables_of(self, classes):
        """Return the steps of all nodes between the classes."""
        tables = []
        behind = classes
        for place in self.places[::-1]:
            if place.is_last:
                behind = classes
                tables.append([])
            ahead = place.classes_of_states(behind)
            tables[-1].append(place.table_of(classes, ahead, behind))
            behind = ahead
        return [rows[::-1] for rows in tables[::-1]]


class Place:
    """The steps at one child of a node, as rows of numbers: of what lies behind, or BARRED."""

    def __init__(self, growth, place, rows):
        index, at = place
        self.is_last = at + 1 == len(growth.folds.nodes[index])
        behind = rows if self.is_last else list(growth.states[(index, at + 1)])
        numbers = {met: number for number, met in enumerate(behind)}
        steps = growth.steps_met[place]
        kept = {name: number for number, name in enumerate(growth.kept_met[place])}
        self.width = len(kept)
        self.rows_behind = []
        for state in growth.states[place]:
            self.rows_behind.append([numbers.get(steps.get((state, name)), BARRED) for name in kept])
        kept_of_rows = growth.kept_of_rows[place]
        self.columns = [kept[kept_of_rows[row]] if row in kept_of_rows else BARRED for row in rows]

    def signs_of_rows(self, behind):
        """Return for each row the number of what it leads to from all states."""
        classes = behind + [BARRED]
        signs = []
        for column in range(self.width):
            signs.append(tuple([classes[row[column]] for row in self.rows_behind]))
        numbers = numbered(signs) + [BARRED]
        return [numbers[column] for column in self.columns]

    def classes_of_states(self, behind):
        """Return for each state the number of what it leads to with all rows, BARRED if to nothing."""
        classes = behind + [BARRED]
        signs = [tuple([classes[step] for step in row]) for row in self.rows_behind]
        hopeful = [sign for sign in signs if max(sign, default=BARRED) != BARRED]
        numbers = {sign: number for number, sign in enumerate({sign: True for sign in hopeful})}
        return [numbers.get(sign, BARRED) for sign in signs]

    def table_of(self, classes, ahead, behind):
        """Return for each class of states the dict of the classes of rows and what they lead to."""
        table = [{} for _ in range(max([0] + ahead) + 1)]
        after = behind + [BARRED]
        for number, row in zip(ahead, self.rows_behind):
            if number != BARRED and not table[number]:
                for one, column in zip(classes, self.columns):
                    if column != BARRED and after[row[column]] != BARRED:
                        table[number][one] = after[row[column]]
        return table


def numbered(signs):
    """Return the number of each sign, from 0 on as they are met."""
    numbers = {}
    for sign in signs:
        if sign not in numbers:
            numbers[sign] = len(numbers)
    return [numbers[sign] for sign in signs]
