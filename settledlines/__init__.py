"""Which lines of a paragraph can further words no longer change?"""
