"""Building plans: cells, saves, a short code and its octets, with papers."""

from calltrim.areas import least_stand
from calltrim.cells import facts_allow, laid
from calltrim.cellruns import told_on_cells
from calltrim.clashes import forced_saves
from calltrim.codes import Code, is_lines
from calltrim.flows import least_facts
from calltrim.images import Image, assembled, words_in_order
from calltrim.kinds import is_number, is_tuple_below
from calltrim.octets import OCTETS_BELOW, addresses_of, end_of, written
from calltrim.placements import is_placement, is_saves, placed, placed_lines
from calltrim.runs import check_moves
from calltrim.shortening import short_paper, shortened, stages_hold

# plans begin with line 0 of procedure 0
START = (0,)


def built(plan):
    placement, saves = laid(plan)
    stages = shortened(placed(plan, placement, saves), START)
    _, lines, entries = stages[-1]
    image = assembled(Code(lines))
    return placement, saves, stages, (image.words, image.octets, entries[0])


def built_run(value, moves):
    check_moves(moves)
    words, octets, place = value[3]
    return told_on_cells(Image(words, octets).code, place, moves)


def built_paper(plan):
    placement, saves = laid(plan)
    return least_facts(plan), short_paper(placed(plan, placement, saves), START)


def built_holds(plan, value, paper):
    if not isinstance(value, tuple) or len(value) != 4 or not isinstance(paper, tuple) or len(paper) != 2:
        return False
    placement, saves, stages, image = value
    if not is_placement(plan, placement) or not is_saves(plan, saves) or saves != forced_saves(plan):
        return False
    lines = placed_lines(plan, placement, saves)
    if not is_lines(lines) or not facts_allow(plan, placement, saves, paper[0]):
        return False
    if not stages_hold(Code(lines), START, stages, paper[1]):
        return False
    _, last, entries = stages[-1]
    return is_image(Code(last), entries[0], image)


def is_image(code, entry, value):
    """Whether value is the image of the code, with some area, and its entry."""
    if not isinstance(value, tuple) or len(value) != 3:
        return False
    words, octets, place = value
    if words != words_in_order(code) or not is_number(place) or place != entry:
        return False
    if not is_tuple_below(octets, OCTETS_BELOW):
        return False
    places = area_read(code, octets)
    return places is not None and octets == written(code.lines, words, places)


def area_read(code, octets):
    """The places whose addresses stand behind the lines; None if they are no area of the code."""
    addresses = addresses_of(code.lines)
    area = octets[end_of(code.lines):]
    if any([address not in addresses for address in area]):
        return None
    places = tuple([addresses.index(address) for address in area])
    tables = [line[2] for line in code.lines if line[0] == "ask"]
    if any([least_stand(table, places) is None for table in tables]):
        return None
    return places if tables or not places else None
