package store

import (
	"slices"

	"creel/api"
	"creel/codec"
	"creel/path"
)

// What a revision has.
const (
	mostNo   = 999999
	sealSize = 32
)

// Rev is a revision.
type Rev struct {
	No   int
	Seal [32]byte
	Size int
}

// Package is one that is installed: its revisions rise by numbers, and one of
// them is the active one.
type Package struct {
	Name, Publisher string
	Active          int
	Revs            []Rev
}

// Check tells what keeps a package from being saved.
func Check(p Package) api.Errno {
	switch {
	case !path.Name(p.Name) || !path.Name(p.Publisher):
		return api.ErrPath
	case len(p.Revs) < 1 || len(p.Revs) > api.MaxKept:
		return api.ErrLong
	case !rising(p.Revs):
		return api.ErrArg
	case !slices.ContainsFunc(p.Revs, func(r Rev) bool { return r.No == p.Active }):
		return api.ErrNone
	}
	return api.OK
}

// Same tells whether all of two packages is the same, right or not.
func Same(a, b Package) bool {
	return a.Name == b.Name && a.Publisher == b.Publisher && a.Active == b.Active && slices.Equal(a.Revs, b.Revs)
}

// rising tells whether all numbers and sizes are as they must be, and numbers
// rise.
func rising(l []Rev) bool {
	last := 0
	for _, r := range l {
		if r.No <= last || r.No > mostNo || r.Size < 0 || r.Size > api.MaxBytes {
			return false
		}
		last = r.No
	}
	return true
}

// packageValue is what stands under a package's name.
func packageValue(p Package) codec.Value {
	var revs []codec.Value
	for _, r := range p.Revs {
		revs = append(revs, codec.Of(codec.Int(r.No), codec.Text(string(r.Seal[:])), codec.Int(r.Size)))
	}
	return codec.Of(codec.Text(p.Publisher), codec.Int(p.Active), codec.Of(revs...))
}

// packageOf is the package that stands as a value under a name; ErrForm, if it
// is none, or not a right one.
func packageOf(name string, v codec.Value) (Package, api.Errno) {
	if !listed(v, codec.Bytes, codec.Number, codec.List) {
		return Package{}, api.ErrForm
	}
	p := Package{Name: name, Publisher: string(v.L[0].B), Active: v.L[1].N}
	for _, in := range v.L[2].L {
		r, ok := revOf(in)
		if !ok {
			return Package{}, api.ErrForm
		}
		p.Revs = append(p.Revs, r)
	}
	if Check(p) != api.OK {
		return Package{}, api.ErrForm
	}
	return p, api.OK
}

// revOf is the revision that stands as a value, right or not, if one does.
func revOf(v codec.Value) (Rev, bool) {
	if !listed(v, codec.Number, codec.Bytes, codec.Number) || len(v.L[1].B) != sealSize {
		return Rev{}, false
	}
	return Rev{No: v.L[0].N, Seal: [sealSize]byte(v.L[1].B), Size: v.L[2].N}, true
}

// listed tells whether a value is a list of just these kinds.
func listed(v codec.Value, kinds ...int) bool {
	return v.Kind == codec.List && slices.EqualFunc(v.L, kinds, func(x codec.Value, kind int) bool { return x.Kind == kind })
}
