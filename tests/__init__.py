"""The tests of twicestep. They use only the names that the document's interface lists."""
