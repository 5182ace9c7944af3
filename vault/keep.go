package vault

import (
	"bytes"
	"slices"

	"variorum/api"
	"variorum/disk"
	"variorum/order"
	"variorum/pack"
	"variorum/sha"
)

// Keep puts ids into packs, and lets go of all others.
func (v *Vault) Keep(ids []api.Id, choices []int) (clash [][]byte, e api.Errno) {
	if v == nil {
		return nil, api.ErrArg
	}
	return v.keep(ids, choices, sha.Sum)
}

// keep is Keep, with a sum for the packs' bytes handed in, since of SHA-256 no two byte strings with one sum are known.
func (v *Vault) keep(ids []api.Id, choices []int, sum func(parts ...[]byte) api.Id) (clash [][]byte, e api.Errno) {
	rows, e := v.rows(order.Set(ids), choices)
	if e != api.OK {
		return nil, e
	}
	k := &keeper{disk: v.disk, sum: sum}
	packs := map[string]*pack.Pack{}
	for _, b := range rows {
		name := file(sum(b))
		clash, e := k.put(name, b)
		if e != api.OK {
			return clash, e
		}
		packs[name], _ = pack.Open(b) // what is built is a pack
	}
	if e := k.dropOthers(packs); e != api.OK {
		return nil, e
	}
	v.packs = packs
	return nil, api.OK
}

// rows is the bytes of the packs that a set of ids goes into. All are made ahead of anything being done to the disk, since one that can't be made must change nothing.
func (v *Vault) rows(set []api.Id, choices []int) ([][]byte, api.Errno) {
	var all []pack.Part
	var sizes []int
	for _, id := range set {
		b, e := v.Get(id)
		if e != api.OK {
			return nil, api.ErrMissing
		}
		all, sizes = append(all, pack.Part{Bytes: b}), append(sizes, len(b))
	}
	packs, bases := Plan(sizes, choices)
	var rows [][]byte
	for len(all) > 0 {
		n := 0
		for n < len(all) && packs[n] == packs[0] {
			all[n].Base = bases[n]
			n++
		}
		b, e := pack.Build(all[:n])
		if e != api.OK {
			return nil, e
		}
		rows = append(rows, b)
		all, packs, bases = all[n:], packs[n:], bases[n:]
	}
	return rows, api.OK
}

// keeper has packs' files on a disk, and no others.
type keeper struct {
	disk  *disk.Disk
	sum   func(parts ...[]byte) api.Id
	added []string // the files that were appended, in order
}

// put has a pack's bytes in its file, kept over any crash. Where that can't be, but the disk is up, those that were appended are taken away again.
func (k *keeper) put(name string, b []byte) (clash [][]byte, e api.Errno) {
	other, e := k.write(name, b)
	switch e {
	case api.ErrCollision:
		clash = [][]byte{b, other}
	case api.ErrNoSpace:
	default:
		return nil, e
	}
	if down := each(k.added, k.disk.Remove); down != api.OK {
		return nil, down
	}
	return clash, e
}

// write has a pack's bytes in its file, unless that has other bytes of the same sum.
func (k *keeper) write(name string, b []byte) (other []byte, e api.Errno) {
	add := func(name string) api.Errno {
		e := k.disk.Append(name, b)
		if e == api.OK {
			k.added = append(k.added, name)
		}
		return e
	}
	had, e := k.disk.Read(name)
	switch {
	case e == api.ErrNone:
		return nil, inTurn(name, add, k.disk.Sync)
	case e != api.OK:
		return nil, e
	case bytes.Equal(had, b): // what was read may not be kept over a crash yet
		return nil, inTurn(name, k.disk.Sync)
	case file(k.sum(had)) == name:
		return had, api.ErrCollision
	}
	return nil, inTurn(name, k.disk.Remove, add, k.disk.Sync)
}

// dropOthers removes all objects' files but those of some packs.
func (k *keeper) dropOthers(packs map[string]*pack.Pack) api.Errno {
	kept := func(name string) bool { return packs[name] != nil }
	others := slices.DeleteFunc(named(k.disk, packMark), kept)
	return each(slices.Concat(others, named(k.disk, looseMark)), k.disk.Remove)
}

// inTurn does acts to a file, one behind the other, till one has an error.
func inTurn(name string, acts ...func(name string) api.Errno) api.Errno {
	for _, act := range acts {
		if e := act(name); e != api.OK {
			return e
		}
	}
	return api.OK
}

// each does an act to files, one behind the other, till one has an error.
func each(names []string, act func(name string) api.Errno) api.Errno {
	for _, name := range names {
		if e := act(name); e != api.OK {
			return e
		}
	}
	return api.OK
}
