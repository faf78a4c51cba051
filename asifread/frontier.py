"""The frontier: which addresses are known, and which ones are to be looked at next."""

from asifread.addresses import house_of, is_address
from asifread.errors import BadAddress, NotKnown
from asifread.kinds import check_count, is_list

MOST_GAP = 9
MOST_LANES = 9
MOST_KNOWN = 60


class Frontier:
    """The known addresses, each with the tick of its last look, or None."""

    def __init__(self, seeds, *, gap=2, lanes=2, most=24):
        check_count(gap, 1, MOST_GAP)
        check_count(lanes, 1, MOST_LANES)
        check_count(most, 1, MOST_KNOWN)
        if not is_list_of_addresses(seeds) or not 1 <= len(seeds) <= most or len(set(seeds)) < len(seeds):
            raise BadAddress("no list of so many unlike addresses")
        self.gap = gap
        self.lanes = lanes
        self.most = most
        self.looks = {address: None for address in seeds}

    def picks(self, tick):
        """The list of the addresses that are to be looked at at that tick."""
        barred = [house_of(address) for address, last in self.looks.items() if is_behind(last, tick - self.gap)]
        found = []
        for address in self.in_order():
            house = house_of(address)
            if house not in barred and len(found) < self.lanes:
                found.append(address)
                barred.append(house)
        return found

    def looked(self, address, tick, links):
        """The address was looked at at that tick, and leads to these addresses."""
        if not isinstance(address, str) or address not in self.looks:
            raise NotKnown("no known address")
        if not is_list_of_addresses(links):
            raise BadAddress("no list of addresses")
        self.looks[address] = tick
        for link in links:
            if link not in self.looks and len(self.looks) < self.most:
                self.looks[link] = None

    def known(self):
        """The known addresses, rising, each with the tick of its last look, or None."""
        return {address: self.looks[address] for address in sorted(self.looks)}

    def bound(self):
        """In so many ticks each known address is looked at."""
        return self.gap * self.most + (self.most - 1) // self.lanes

    def in_order(self):
        """The known addresses, those first that wait longest."""
        never = sorted([address for address, last in self.looks.items() if last is None])
        others = sorted([(last, address) for address, last in self.looks.items() if last is not None])
        return never + [address for _, address in others]


def is_behind(last, tick):
    """Whether the last look, if there was one, was behind that tick."""
    return last is not None and last > tick


def is_list_of_addresses(thing):
    """Whether the thing is a list of addresses."""
    return is_list(thing) and all([is_address(part) for part in thing])
