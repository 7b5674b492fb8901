package letter

import "signet/api"

// fault is what is wrong with keys or a letter.
type fault struct {
	number api.Errno
	what   string
}

func (f fault) Error() string { return f.what }

// place says where an error is.
type place struct {
	name  string
	inner error
}

func (p place) Error() string { return p.name + ": " + p.inner.Error() }

func (p place) Unwrap() error { return p.inner }

// at says where err is, if there is one.
func at(name string, err error) error {
	if err == nil {
		return nil
	}
	return place{name, err}
}
