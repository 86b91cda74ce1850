"""The tests of movecells."""
