"""Lettermend: a file store on many shelves that mends what burns with the fewest letters."""
