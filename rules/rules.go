// Package rules: what operations on an address space are refused by, and what they make of its regions. Spaces, the abstract
// machine and the one on pages ask here, so that all three refuse the same.
package rules

import (
	"almanac/api"
	"almanac/region"
)

// Right tells whether a shape's numbers of address spaces are ones that may be.
func Right(c api.Config) bool {
	return c.Page >= api.MinPage && c.Page <= api.MaxPage && c.Regions >= 1 && c.Regions <= api.MaxRegions &&
		c.Pages >= 1 && c.Pages <= api.MaxPages
}

// Model tells whether a shape is one that a machine may have.
func Model(c api.Config) bool { return Right(c) && c.Procs >= 1 && c.Procs <= api.MaxProcs }

// pages refuses pages that are not all there.
func pages(c api.Config, at, n int) api.Errno {
	if n < 1 || at < 0 || at > c.Pages || n > c.Pages-at {
		return api.ErrArg
	}
	return api.OK
}

// fits refuses regions that are too many.
func fits(c api.Config, l []api.Region, e api.Errno) ([]api.Region, api.Errno) {
	if e == api.OK && len(l) > c.Regions {
		e = api.ErrMem
	}
	if e != api.OK {
		return nil, e
	}
	return l, api.OK
}

// Map, Unmap, Protect tell the regions that others become.
func Map(c api.Config, l []api.Region, at, n, prot int) ([]api.Region, api.Errno) {
	if e := pages(c, at, n); e != api.OK {
		return nil, e
	}
	l, e := region.Map(l, at, at+n, prot)
	return fits(c, l, e)
}

func Unmap(c api.Config, l []api.Region, at, n int) ([]api.Region, api.Errno) {
	if e := pages(c, at, n); e != api.OK {
		return nil, e
	}
	return fits(c, region.Unmap(l, at, at+n), api.OK)
}

func Protect(c api.Config, l []api.Region, at, n, prot int) ([]api.Region, api.Errno) {
	if e := pages(c, at, n); e != api.OK {
		return nil, e
	}
	l, e := region.Protect(l, at, at+n, prot)
	return fits(c, l, e)
}

// Load, Store refuse n bytes that may not be read, or written.
func Load(c api.Config, l []api.Region, at, n int) api.Errno { return bytes(c, l, at, n, api.Read) }

func Store(c api.Config, l []api.Region, at, n int) api.Errno { return bytes(c, l, at, n, api.Write) }

func bytes(c api.Config, l []api.Region, at, n, way int) api.Errno {
	all := c.Pages * c.Page
	if n < 0 || n > api.MaxValue || at < 0 || at > all || n > all-at {
		return api.ErrArg
	}
	if n > 0 && !region.All(l, at/c.Page, (at+n-1)/c.Page+1, way) {
		return api.ErrFault
	}
	return api.OK
}

// Slots tells whether pages rise, and each is in a region.
func Slots(l []api.Region, pages []int) bool {
	last := -1
	for _, page := range pages {
		if _, ok := region.Find(l, page); !ok || page <= last {
			return false
		}
		last = page
	}
	return true
}

// Regions tells whether regions are ones that an address space may have.
func Regions(c api.Config, l []api.Region) bool {
	return region.Right(l, c.Pages) && len(l) <= c.Regions
}
