package ordmap

import "bocage/api"

// Cursor stands on a key of a map, or on none. It knows the key alone, so that whatever is done with the map doesn't take it elsewhere.
type Cursor struct {
	of  *Map
	on  bool
	key api.Cut
}

// Cursor is one that stands on no key.
func (m *Map) Cursor() *Cursor { return &Cursor{of: m} }

// Seek takes the cursor to the least key that is not below at; false, if there is none.
func (c *Cursor) Seek(at api.Cut) bool { return c.stand(c.of.Ceiling(at)) }

// Next takes the cursor to the least key above its own; false, if there is none, or if it stands on none.
func (c *Cursor) Next() bool { return c.step(c.of.Higher) }

// Prev takes the cursor to the greatest key below its own; false, if there is none, or if it stands on none.
func (c *Cursor) Prev() bool { return c.step(c.of.Lower) }

// Seg is the segment of the key on which the cursor stands; false, if it stands on none, or if there is no such segment any more.
func (c *Cursor) Seg() (api.Seg, bool) {
	if !c.on {
		return api.Seg{}, false
	}
	return c.of.Get(c.key)
}

// step takes the cursor to the key that beside tells of its own.
func (c *Cursor) step(beside func(key api.Cut) (api.Seg, bool)) bool {
	if !c.on {
		return false
	}
	return c.stand(beside(c.key))
}

// stand takes the cursor to the key of s; to none, if there is no s.
func (c *Cursor) stand(s api.Seg, is bool) bool {
	c.on, c.key = is, s.Span.Low
	return is
}
