"""The object that calls are made on, and the writes that keep its indexes and kept answers right."""

from thingsworld.cache import Cache
from thingsworld.indexes import Index
from thingsworld.things import Thing


class World:
    """Kinds and things by their numbers, how many things were ever made, indexes, and kept answers."""

    def __init__(self):
        self.kinds = {}
        self.things = {}
        self.made = 0
        self.indexes = []
        self.cache = Cache(0, 4)

    def order_of(self, number):
        """The order of the thing's kind."""
        return self.kinds[self.things[number].kind].order

    def is_a(self, number, kind):
        """Whether the thing is a kind."""
        return kind in self.order_of(number)

    def source_of(self, number, attribute):
        """Where what the thing has of the attribute comes from: 0 for itself, a kind, or None if it has nothing."""
        if attribute in self.things[number].own:
            return 0
        for kind in self.order_of(number):
            if attribute in self.kinds[kind].defaults:
                return kind
        return None

    def value_of(self, number, attribute):
        """What the thing has of the attribute, or None."""
        source = self.source_of(number, attribute)
        if source is None:
            return None
        if source == 0:
            return self.things[number].own[attribute]
        return self.kinds[source].defaults[attribute]

    def values_of(self, number, attributes):
        """What the thing has of each of the attributes, None where it has nothing."""
        return [self.value_of(number, attribute) for attribute in attributes]

    def is_holder(self, number):
        """Whether the number is the world's or that of a thing that is here."""
        return number == 0 or number in self.things

    def renew_rows(self, number, attribute):
        """Bring the thing's rows up to date in the indexes of the attribute."""
        for index in self.indexes:
            if attribute in index.attributes:
                index.renew(number, self.values_of(number, index.attributes))

    def own_written(self, number, attribute):
        """Follow a write of the thing's own value."""
        self.renew_rows(number, attribute)
        self.cache.attribute_written(attribute)

    def default_written(self, kind, attribute):
        """Follow a write of the kind's default."""
        for number in self.things:
            if self.is_a(number, kind):
                self.renew_rows(number, attribute)
        self.cache.attribute_written(attribute)

    def make(self, kind, holder):
        """Make a thing and give its number."""
        self.made += 1
        self.things[self.made] = Thing(kind, holder)
        for index in self.indexes:
            index.renew(self.made, self.values_of(self.made, index.attributes))
        self.cache.things_changed()
        return self.made

    def drop(self, numbers):
        """Drop the things."""
        for number in numbers:
            self.things.pop(number)
            for index in self.indexes:
                index.take_out(number)
        self.cache.things_changed()

    def move(self, number, holder):
        """Move the thing."""
        self.things[number].holder = holder
        self.cache.thing_moved()

    def make_index(self, attributes):
        """Make an index with the rows of the things that are here."""
        index = Index(attributes)
        for number in self.things:
            index.renew(number, self.values_of(number, attributes))
        self.indexes.append(index)
