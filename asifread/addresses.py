"""Names, addresses, and where a link in a page leads."""

from asifread.errors import BadAddress
from asifread.kinds import SMALL, made_of

LONGEST_NAME = 8
MOST_NAMES = 3


def is_name(thing):
    """Whether the thing is a name: 1 to 8 small letters and figures."""
    return isinstance(thing, str) and 1 <= len(thing) <= LONGEST_NAME and made_of(thing, SMALL)


def is_address(thing):
    """Whether the thing is a house, `/`, and none to three names with `/` between."""
    if not isinstance(thing, str):
        return False
    house, slash, rest = thing.partition("/")
    if slash == "" or not is_name(house):
        return False
    if rest == "":
        return True
    names = rest.split("/")
    return len(names) <= MOST_NAMES and all([is_name(name) for name in names])


def check_address(thing):
    """Refuse what is no address."""
    if not is_address(thing):
        raise BadAddress("no address")


def house_of(address):
    """The house of the address."""
    check_address(address)
    return address.partition("/")[0]


def linked(address, link):
    """The address to which the link leads from the page at the address, or None."""
    house = house_of(address)
    if is_address(link):
        return link
    names = address.split("/")[1:]
    if link.startswith("/"):
        return address_below(house, [], link[1:])
    if link.startswith("./"):
        return address_below(house, names[:-1], link[2:])
    if link.startswith("../") and len(names) > 1:
        return address_below(house, names[:-2], link[3:])
    return None


def address_below(house, folder, rest):
    """The address of the names in the rest, if any, behind those of the folder, or None."""
    names = folder + [rest] if rest else folder
    found = house + "/" + "/".join(names)
    return found if is_address(found) else None
