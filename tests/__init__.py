"""The tests of whistleboard."""
