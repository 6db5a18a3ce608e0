package streams

// Made: a stream of a walk that a test wrote, so that it can count the walks.
func Made(each func(yield func(string) bool)) Stream { return Stream{each: each} }
