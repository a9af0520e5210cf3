package container

import "vouch/api"

// part is one of the numbers of which a type is made.
type part struct {
	wide  int                       // how many bytes it has
	of    func(t *api.Type) *int    // where it lies in a type
	right func(section, n int) bool // may it be n, in the type of this section?
}

// typeParts are the parts of a type, in the order of their bytes.
func typeParts() [3]part {
	return [...]part{
		{
			wide:  1,
			of:    func(t *api.Type) *int { return &t.In },
			right: func(section, n int) bool { return n == 0 || section > 0 && n > 0 && n <= api.MaxIn },
		},
		{
			wide:  1,
			of:    func(t *api.Type) *int { return &t.Out },
			right: func(section, n int) bool { return n == api.NoReturn || section > 0 && n >= 0 && n < api.NoReturn },
		},
		{
			wide:  2,
			of:    func(t *api.Type) *int { return &t.Most },
			right: func(section, n int) bool { return n >= 0 && n <= api.MaxMost },
		},
	}
}

// checkTypes: are all of them right?
func checkTypes(types []api.Type) api.Errno {
	parts := typeParts()
	for section, t := range types {
		for _, p := range parts {
			if !p.right(section, *p.of(&t)) {
				return api.ErrType
			}
		}
	}
	return api.OK
}

// writeTypes puts the types' bytes behind b.
func writeTypes(b []byte, types []api.Type) []byte {
	parts := typeParts()
	for _, t := range types {
		for _, p := range parts {
			b = writeNumber(b, p.wide, uint64(*p.of(&t)))
		}
	}
	return b
}
