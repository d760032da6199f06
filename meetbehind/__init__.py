"""Which hosts behind gates that lend ports can be heard by which."""
