"""Papers about disks: what shows that a version of a page cannot be worked out."""

from wendleaf.errors import NotLost
from wendleaf.logread import bare_of
from wendleaf.mending import image_of, stands_of, wounded_by
from wendleaf.past import read_past
from wendleaf.worlds import worlds


def wounds(disk):
    """The pages by which the disk is wounded, and the paper of its log and image; or None if it is mendable."""
    roll, _, stands = stands_of(disk)
    pages = wounded_by(roll, stands)
    if len(pages) == 0:
        return None
    return pages, worlds(bare_of(roll), image_of(roll, stands))


def worlds_of(disk, page, moment):
    """The paper of the disk's log and image, for a version of a page that is not known."""
    roll, stands, is_known = read_past(disk, page, moment)
    if is_known:
        raise NotLost(page)
    return worlds(bare_of(roll), image_of(roll, stands))
