"""Onlyalike: programs that go once through a list of any things, and only ask what is alike."""
