package types

import "sepal/api"

// thrown is the first error that is found, with the name that it concerns. The checker knows its place.
type thrown struct {
	name string
	e    api.Errno
}

// demand throws an error unless a condition holds.
func demand(holds bool, e api.Errno, name string) {
	if !holds {
		panic(thrown{name, e})
	}
}

// caught returns what check throws, or a zero value if that is nothing. Any other panic leaves ErrArg: what could not be checked must not pass for right.
func caught(check func()) (t thrown) {
	defer func() {
		if x, ok := recover().(thrown); ok {
			t = x
		}
	}()
	t.e = api.ErrArg
	check()
	return thrown{}
}
