// Package keep copies what is handed in and must be known still when its caller has written over it.
package keep

import (
	"bytes"
	"slices"

	"waymark/api"
)

// Config answers c in memory of its own.
func Config(c api.Config) api.Config {
	c.Areas = slices.Clone(c.Areas)
	for i, area := range c.Areas {
		c.Areas[i] = bytes.Clone(area)
	}
	c.Links = slices.Clone(c.Links)
	c.Owns = slices.Clone(c.Owns)
	c.Leak = slices.Clone(c.Leak)
	c.Keys = slices.Clone(c.Keys)
	for i, k := range c.Keys {
		c.Keys[i].Secret = bytes.Clone(k.Secret)
	}
	return c
}
