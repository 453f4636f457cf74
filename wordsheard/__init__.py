"""Words heard: words parted into even lists, and what was heard of them scored."""
