"""What processors that are told by tables give away of the data they work on."""
