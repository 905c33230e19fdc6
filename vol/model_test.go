package vol_test

import (
	"cmp"
	"maps"
	"slices"
	"strings"

	"cambium/api"
)

// The chapters' numbers.
const (
	chunk     = 128
	maxInline = 24
	maxFile   = 8192
	chunks    = maxFile / chunk
	maxNumber = 1<<31 - 1
	maxLinks  = 65535
)

// inode is one that should be: of a file its bytes, of a directory its entries by their numbers.
type inode struct {
	kind, links int
	bytes       string
	entries     map[int]api.Entry
}

func (n *inode) size() int { return len(n.bytes) + len(n.entries) }

// entry is the number of a directory's entry with a name.
func (n *inode) entry(name string) (int, bool) {
	for i, x := range n.entries {
		if x.Name == name {
			return i, true
		}
	}
	return 0, false
}

func (n *inode) add(x api.Entry) {
	next := 0
	for i := range n.entries {
		next = max(next, i+1)
	}
	n.entries[next] = x
}

// tree is a subvolume, and what should be in it: its calls do what the chapter says, and tell which error it asks for.
type tree struct {
	v      api.Vol
	inodes map[int]*inode
}

func planted(v api.Vol) *tree {
	return &tree{v, map[int]*inode{1: {api.Dir, 1, "", map[int]api.Entry{}}}}
}

func (tr *tree) clone() *tree {
	c := &tree{tr.v, map[int]*inode{}}
	for ino, n := range tr.inodes {
		m := *n
		m.entries = maps.Clone(n.entries)
		c.inodes[ino] = &m
	}
	return c
}

func (tr *tree) stat(ino int) (api.Stat, api.Errno) {
	n := tr.inodes[ino]
	if n == nil {
		return api.Stat{}, api.ErrNone
	}
	return api.Stat{Ino: ino, Kind: n.kind, Links: n.links, Size: n.size()}, api.OK
}

func (tr *tree) find(names []string) (int, api.Errno) {
	at := 1
	for _, s := range names {
		n := tr.inodes[at]
		if n.kind == api.File {
			return 0, api.ErrNotDir
		}
		i, is := n.entry(s)
		if !is {
			return 0, api.ErrNone
		}
		at = n.entries[i].Ino
	}
	return at, api.OK
}

// parent is the directory in which the last name would stand. What it tells of no names is the calls' own.
func (tr *tree) parent(names []string) (int, string, api.Errno) {
	last := len(names) - 1
	up, e := tr.find(names[:last])
	if e == api.OK && tr.inodes[up].kind == api.File {
		e = api.ErrNotDir
	}
	return up, names[last], e
}

func (tr *tree) list(ino int) ([]api.Entry, api.Errno) {
	n := tr.inodes[ino]
	switch {
	case n == nil:
		return nil, api.ErrNone
	case n.kind == api.File:
		return nil, api.ErrNotDir
	}
	return slices.SortedFunc(maps.Values(n.entries), func(a, b api.Entry) int { return strings.Compare(a.Name, b.Name) }), api.OK
}

func (tr *tree) orphans() []int {
	var l []int
	for ino, n := range tr.inodes {
		if n.links == 0 {
			l = append(l, ino)
		}
	}
	slices.Sort(l)
	return l
}

func (tr *tree) create(names []string, kind int) (int, api.Errno) {
	if kind != api.File && kind != api.Dir {
		return 0, api.ErrArg
	}
	if len(names) == 0 {
		return 0, api.ErrExists
	}
	up, last, e := tr.parent(names)
	if e != api.OK {
		return 0, e
	}
	if _, is := tr.inodes[up].entry(last); is {
		return 0, api.ErrExists
	}
	if tr.v.Next == maxNumber {
		return 0, api.ErrMany
	}
	ino := tr.v.Next
	tr.v.Next++
	tr.inodes[ino] = &inode{kind: kind, links: 1}
	if kind == api.Dir {
		tr.inodes[ino].entries = map[int]api.Entry{}
	}
	tr.inodes[up].add(api.Entry{Name: last, Ino: ino, Kind: kind})
	return ino, api.OK
}

func (tr *tree) link(old, now []string) api.Errno {
	ino, e := tr.find(old)
	if e != api.OK {
		return e
	}
	if tr.inodes[ino].kind == api.Dir {
		return api.ErrIsDir
	}
	if len(now) == 0 {
		return api.ErrExists
	}
	up, last, e := tr.parent(now)
	if e != api.OK {
		return e
	}
	if _, is := tr.inodes[up].entry(last); is {
		return api.ErrExists
	}
	if tr.inodes[ino].links == maxLinks {
		return api.ErrMany
	}
	tr.inodes[ino].links++
	tr.inodes[up].add(api.Entry{Name: last, Ino: ino, Kind: api.File})
	return api.OK
}

// lose lets one entry less name a file.
func (tr *tree) lose(ino int, keep bool) {
	tr.inodes[ino].links--
	if tr.inodes[ino].links == 0 && !keep {
		delete(tr.inodes, ino)
	}
}

// remove takes the entry out to which names lead.
func (tr *tree) remove(names []string) {
	up, last, _ := tr.parent(names)
	i, _ := tr.inodes[up].entry(last)
	delete(tr.inodes[up].entries, i)
}

func (tr *tree) unlink(names []string, keep bool) api.Errno {
	if len(names) == 0 {
		return api.ErrIsDir
	}
	ino, e := tr.find(names)
	if e != api.OK {
		return e
	}
	if tr.inodes[ino].kind == api.Dir {
		return api.ErrIsDir
	}
	tr.remove(names)
	tr.lose(ino, keep)
	return api.OK
}

func (tr *tree) rmdir(names []string) api.Errno {
	if len(names) == 0 {
		return api.ErrArg
	}
	ino, e := tr.find(names)
	if e != api.OK {
		return e
	}
	if tr.inodes[ino].kind == api.File {
		return api.ErrNotDir
	}
	if len(tr.inodes[ino].entries) > 0 {
		return api.ErrFull
	}
	tr.remove(names)
	delete(tr.inodes, ino)
	return api.OK
}

func (tr *tree) rename(old, now []string, keep bool) api.Errno {
	if len(old) == 0 || len(now) == 0 {
		return api.ErrArg
	}
	ino, e := tr.find(old)
	if e != api.OK {
		return e
	}
	kind := tr.inodes[ino].kind
	if kind == api.Dir && len(now) > len(old) && slices.Equal(now[:len(old)], old) {
		return api.ErrLoop
	}
	up, last, e := tr.parent(now)
	if e != api.OK {
		return e
	}
	come := api.Entry{Name: last, Ino: ino, Kind: kind}
	i, is := tr.inodes[up].entry(last)
	if !is {
		tr.inodes[up].add(come)
		tr.remove(old)
		return api.OK
	}
	there := tr.inodes[up].entries[i].Ino
	switch {
	case there == ino:
		return api.OK
	case kind == api.Dir && tr.inodes[there].kind == api.File:
		return api.ErrNotDir
	case kind == api.Dir && len(tr.inodes[there].entries) > 0:
		return api.ErrFull
	case kind == api.Dir:
		delete(tr.inodes, there)
	case tr.inodes[there].kind == api.Dir:
		return api.ErrIsDir
	default:
		tr.lose(there, keep)
	}
	tr.inodes[up].entries[i] = come
	tr.remove(old)
	return api.OK
}

// file tells whether all of some inodes are files.
func (tr *tree) file(inos ...int) api.Errno {
	for _, ino := range inos {
		if tr.inodes[ino] == nil {
			return api.ErrNone
		}
	}
	for _, ino := range inos {
		if tr.inodes[ino].kind == api.Dir {
			return api.ErrIsDir
		}
	}
	return api.OK
}

func (tr *tree) read(ino, off, n int) (string, api.Errno) {
	if e := tr.file(ino); e != api.OK {
		return "", e
	}
	if off < 0 || n < 0 {
		return "", api.ErrArg
	}
	b := tr.inodes[ino].bytes
	off = min(off, len(b))
	return b[off : off+min(n, len(b)-off)], api.OK
}

func noughts(n int) string { return strings.Repeat("\x00", n) }

// grown are bytes with as many noughts behind that there are n.
func grown(b string, n int) string { return b + noughts(max(n-len(b), 0)) }

func (tr *tree) write(ino, off int, b string) api.Errno {
	if e := tr.file(ino); e != api.OK {
		return e
	}
	if off < 0 {
		return api.ErrArg
	}
	was := tr.inodes[ino].bytes
	if off > maxFile || off+len(b) > maxFile {
		return api.ErrBig
	}
	if b != "" {
		was = grown(was, off+len(b))
		tr.inodes[ino].bytes = was[:off] + b + was[off+len(b):]
	}
	return api.OK
}

func (tr *tree) resize(ino, to int) api.Errno {
	if e := tr.file(ino); e != api.OK {
		return e
	}
	if to < 0 {
		return api.ErrArg
	}
	if to > maxFile {
		return api.ErrBig
	}
	tr.inodes[ino].bytes = grown(tr.inodes[ino].bytes, to)[:to]
	return api.OK
}

func (tr *tree) copyChunks(src, from, dst, to, n int) api.Errno {
	if e := tr.file(src, dst); e != api.OK {
		return e
	}
	for _, x := range []int{from, to, n} {
		if x < 0 || x > chunks {
			return api.ErrArg
		}
	}
	was, size := tr.inodes[src].bytes, len(tr.inodes[dst].bytes)
	if n > 0 && from*chunk < len(was) {
		size = max(size, to*chunk+min(n*chunk, len(was)-from*chunk))
	}
	if size > maxFile {
		return api.ErrBig
	}
	whole := []byte(grown(tr.inodes[dst].bytes, 2*maxFile))
	for i := range n {
		if at := (from + i) * chunk; at < len(was) {
			copy(whole[(to+i)*chunk:], grown(was, 2*maxFile)[at:at+chunk])
		}
	}
	tr.inodes[dst].bytes = string(whole[:size])
	return api.OK
}

func (tr *tree) reap(ino int) api.Errno {
	if n := tr.inodes[ino]; n == nil || n.links > 0 {
		return api.ErrNone
	}
	delete(tr.inodes, ino)
	return api.OK
}

// The items, as chapters 13, 15 and 16 say them.

func number(b []byte, x, width int) []byte {
	for i := width - 1; i >= 0; i-- {
		b = append(b, byte(x>>(8*i)))
	}
	return b
}

func inodeKey(ino int) api.Key    { return api.Key{Obj: ino, Kind: 1} }
func entryKey(ino, n int) api.Key { return api.Key{Obj: ino, Kind: 2, Off: n} }
func dataKey(ino, c int) api.Key  { return api.Key{Obj: ino, Kind: 3, Off: c} }
func orphanKey(ino int) api.Key   { return api.Key{Kind: 4, Off: ino} }

func compared(a, b api.Key) int {
	return cmp.Or(cmp.Compare(a.Obj, b.Obj), cmp.Compare(a.Kind, b.Kind), cmp.Compare(a.Off, b.Off))
}

func inodeValue(kind, links, size int) string {
	return string(number(number([]byte{byte(kind)}, links, 2), size, 4))
}

func entryValue(x api.Entry) string {
	b := append([]byte{byte(len(x.Name))}, x.Name...)
	return string(append(number(b, x.Ino, 4), byte(x.Kind)))
}

// items are what the tree should have: of a chunk the bytes, wherever they are.
func (tr *tree) items() map[api.Key]string {
	l := map[api.Key]string{}
	for ino, n := range tr.inodes {
		l[inodeKey(ino)] = inodeValue(n.kind, n.links, n.size())
		if n.links == 0 {
			l[orphanKey(ino)] = ""
		}
		for i, x := range n.entries {
			l[entryKey(ino, i)] = entryValue(x)
		}
		whole := grown(n.bytes, maxFile)
		for c := range chunks {
			if b := strings.TrimRight(whole[c*chunk:(c+1)*chunk], "\x00"); b != "" {
				l[dataKey(ino, c)] = b
			}
		}
	}
	return l
}
