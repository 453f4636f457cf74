"""Words heard: words parted into even lists, what was heard of them scored, and scores held against chance."""
