"""Two senders that write on one screen in pieces, some of which are lost."""
