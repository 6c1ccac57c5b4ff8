package daemon

import (
	"slices"

	"waymark/api"
	"waymark/prefix"
)

const (
	mostArea  = 13 // bytes
	mostHost  = 63 // bytes
	mostLeaks = 64 // prefixes
	blocked   = -1 // the least mesh group
)

// Check answers the least error that keeps c from being in form.
func Check(c api.Config) api.Errno {
	switch {
	case isNoLevel(c.Level) || slices.ContainsFunc(c.Links, isOutside) || slices.ContainsFunc(c.Owns, hasNoLevel):
		return api.ErrArg
	case isLong(c):
		return api.ErrLong
	case hasNoForm(c):
		return api.ErrForm
	case hasTwice(c.Owns):
		return api.ErrExists
	}
	return api.OK
}

// isNoLevel tells whether nothing can have that level.
func isNoLevel(level int) bool {
	return level < api.L1 || level > api.Both
}

// isOutside tells whether a number of the link lies outside its range.
func isOutside(l api.Link) bool {
	return isNoLevel(l.Level) || l.Metric[0] > api.MaxLink || l.Metric[1] > api.MaxLink || l.Mesh < blocked
}

// hasNoLevel tells whether the own prefix can't be told at its level.
func hasNoLevel(o api.Own) bool {
	return isNoLevel(o.Level)
}

// isLong tells whether c has too many of something, or a text or a secret that is too long.
func isLong(c api.Config) bool {
	return len(c.Areas) > api.MaxAreas || len(c.Host) > mostHost || len(c.Links) > api.MaxCircuits ||
		len(c.Owns) > api.MaxPrefixes || len(c.Leak) > mostLeaks || len(c.Keys) > api.MaxKeys ||
		slices.ContainsFunc(c.Keys, func(k api.Key) bool { return len(k.Secret) > api.MaxKey })
}

// hasNoForm tells whether something in c isn't of its form; of a secret only that it is empty is left to ask.
func hasNoForm(c api.Config) bool {
	return len(c.Areas) == 0 || slices.ContainsFunc(c.Areas, isNoArea) ||
		slices.ContainsFunc(c.Keys, func(k api.Key) bool { return len(k.Secret) == 0 }) ||
		slices.ContainsFunc(c.Owns, func(o api.Own) bool { return isNoPrefix(o.Prefix) }) ||
		slices.ContainsFunc(c.Leak, isNoPrefix)
}

// isNoArea tells whether an area has no bytes, or too many.
func isNoArea(area []byte) bool {
	return len(area) == 0 || len(area) > mostArea
}

// isNoPrefix tells whether p is not in form.
func isNoPrefix(p api.Prefix) bool {
	return prefix.Check(p) != api.OK
}

// hasTwice tells whether two have one prefix.
func hasTwice(owns []api.Own) bool {
	known := map[api.Prefix]struct{}{}
	for _, o := range owns {
		known[o.Prefix] = struct{}{}
	}
	return len(known) < len(owns)
}
