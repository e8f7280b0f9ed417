package scope

import (
	"usufruct/api"
	"usufruct/tree"
)

// copyOf shares nothing with c. Bare copies all but the places.
func copyOf(c api.Crate) api.Crate {
	own := tree.Bare(c)
	for i, x := range c.Structs {
		own.Structs[i].At = x.At
	}
	for i, f := range c.Funcs {
		own.Funcs[i].At = f.At
		copyPlaces(own.Funcs[i].Body, f.Body)
	}
	return own
}

func copyPlaces(to, from []api.Stmt) {
	for i := range from {
		to[i].At = from[i].At
		copyPlaces(to[i].Then, from[i].Then)
		copyPlaces(to[i].Else, from[i].Else)
	}
}
