package object_test

import (
	"crypto/sha256"
	"encoding/binary"
	"math"
	"math/rand"
	"reflect"
	"slices"
	"strings"
	"testing"
	"unicode/utf8"

	"variorum/api"
	"variorum/object"
)

// id is one that begins with two bytes of a number, so that greater numbers have later ids.
func id(n int) (id api.Id) {
	binary.BigEndian.PutUint16(id[:], uint16(n))
	return id
}

func ids(numbers ...int) []api.Id {
	var l []api.Id
	for _, n := range numbers {
		l = append(l, id(n))
	}
	return l
}

// own is a ref to what the change itself has made.
func own(index int) api.Ref { return api.Ref{Index: index} }

func of(n, index int) api.Ref { return api.Ref{Change: id(n), Index: index} }

func create(path string) api.Op { return api.Op{Kind: api.OCreate, Path: path} }

func insert(doc, at api.Ref, text string) api.Op {
	return api.Op{Kind: api.OInsert, Doc: doc, At: at, Text: text}
}

func drop(doc, at api.Ref, count int) api.Op {
	return api.Op{Kind: api.ODelete, Doc: doc, At: at, Count: count}
}

func rename(doc api.Ref, path string) api.Op {
	return api.Op{Kind: api.ORename, Doc: doc, Path: path}
}

func remove(doc api.Ref) api.Op { return api.Op{Kind: api.ORemove, Doc: doc} }

// change is one by Ann, of some operations, that hangs on the changes 1 and 2.
func change(ops ...api.Op) api.Object {
	return api.Object{Kind: api.KChange, Change: api.Change{Time: 7, Deps: ids(1, 2), Author: "Ann", Ops: ops}}
}

func commit(parents, changes []api.Id) api.Object {
	return api.Object{Kind: api.KCommit, Commit: api.Commit{Parents: parents, Changes: changes, Author: "Ann", Message: "m", Stamp: 5}}
}

// num puts numbers, as the library has them.
func num(b []byte, l ...int) []byte {
	for _, n := range l {
		b = binary.AppendUvarint(b, uint64(n))
	}
	return b
}

func str(b []byte, s string) []byte { return append(num(b, len(s)), s...) }

func idList(b []byte, l []api.Id) []byte {
	b = num(b, len(l))
	for _, id := range l {
		b = append(b, id[:]...)
	}
	return b
}

// plain is the bytes of an object, put down as the chapter tells them.
func plain(o api.Object) []byte {
	if c := o.Commit; o.Kind == api.KCommit {
		b := idList(idList([]byte{'K'}, c.Parents), c.Changes)
		return num(str(str(b, c.Author), c.Message), c.Stamp)
	}
	c := o.Change
	b := num(str(idList(num([]byte{'C'}, c.Time), c.Deps), c.Author), len(c.Ops))
	ref := func(r api.Ref) { b = num(b, 1+slices.Index(c.Deps, r.Change), r.Index) }
	for _, op := range c.Ops {
		b = append(b, op.Kind)
		switch op.Kind {
		case api.OInsert:
			ref(op.Doc)
			ref(op.At)
			b = str(b, op.Text)
		case api.ODelete:
			ref(op.Doc)
			ref(op.At)
			b = num(b, op.Count)
		case api.OCreate:
			b = str(b, op.Path)
		case api.ORename:
			ref(op.Doc)
			b = str(b, op.Path)
		case api.ORemove:
			ref(op.Doc)
		}
	}
	return b
}

// same: are two objects one, empty lists being the same as none?
func same(a, b api.Object) bool {
	for _, o := range []*api.Object{&a, &b} {
		for _, l := range []*[]api.Id{&o.Change.Deps, &o.Commit.Parents, &o.Commit.Changes} {
			if len(*l) == 0 {
				*l = nil
			}
		}
		if len(o.Change.Ops) == 0 {
			o.Change.Ops = nil
		}
	}
	return reflect.DeepEqual(a, b)
}

// thereAndBack: an object that may be is written as the chapter tells, and read again.
func thereAndBack(t *testing.T, o api.Object) {
	t.Helper()
	want := plain(o)
	b, e := object.Encode(o)
	if !object.Right(o) || e != api.OK || !slices.Equal(b, want) {
		t.Fatalf("%+v: %t, %d, %v, not %v", o, object.Right(o), e, b, want)
	}
	if got, e := object.Id(o); e != api.OK || got != sha256.Sum256(want) {
		t.Errorf("%+v: id %x, %d", o, got, e)
	}
	if got, e := object.Decode(want); e != api.OK || !same(got, o) {
		t.Errorf("%v: %+v, %d", want, got, e)
	}
}

// refused: an object that may not be is neither written nor has it an id; its bytes are none.
func refused(t *testing.T, what string, o api.Object) {
	t.Helper()
	if object.Right(o) {
		t.Errorf("%s may be", what)
	}
	if b, e := object.Encode(o); e != api.ErrArg || len(b) != 0 {
		t.Errorf("%s: %v, %d", what, b, e)
	}
	if id, e := object.Id(o); e != api.ErrArg || id != (api.Id{}) {
		t.Errorf("%s: id %x, %d", what, id, e)
	}
	if o.Kind != api.KChange && o.Kind != api.KCommit {
		return
	}
	formless(t, what, plain(o))
}

func formless(t *testing.T, what string, b []byte) {
	t.Helper()
	if o, e := object.Decode(b); e != api.ErrForm || !reflect.DeepEqual(o, api.Object{}) {
		t.Errorf("%s: bytes %.60v: %+v, %d", what, b, o, e)
	}
}

// P8.1, P8.2: the chapter's examples.
func TestExamples(t *testing.T) {
	o := commit(nil, nil)
	if b, e := object.Encode(o); e != api.OK || !slices.Equal(b, []byte{75, 0, 0, 3, 'A', 'n', 'n', 1, 'm', 5}) {
		t.Error(b, e)
	}
	thereAndBack(t, o)
	o = change(create("a"), insert(own(0), own(0), "hi"))
	o.Change.Time, o.Change.Deps = 1, nil
	b, e := object.Encode(o)
	if e != api.OK || !slices.Equal(b, []byte{67, 1, 0, 3, 'A', 'n', 'n', 2, 3, 1, 'a', 1, 0, 0, 0, 0, 2, 'h', 'i'}) {
		t.Error(b, e)
	}
	thereAndBack(t, o)
	formless(t, "a byte behind it", append(b, 0))
}

// P8.1, P8.2: changes that may be, at the edges of what may.
func TestChanges(t *testing.T) {
	for _, ops := range [][]api.Op{
		{create("a")},
		{remove(of(1, 0))},
		{remove(of(2, 1<<31-1))},
		{create("a"), create("a"), remove(own(0)), rename(own(1), "b/c"), remove(own(1)), remove(own(1))},
		{create("a"), insert(own(0), own(0), "héé"), insert(own(0), own(3), "x"), drop(own(0), own(1), 4), drop(own(0), own(1), 4), drop(own(0), own(4), 1)},
		{insert(of(1, 5), of(1, 5), "ab"), insert(of(1, 5), own(1), "c"), insert(of(1, 5), of(2, 9), "d"), insert(of(1, 5), of(1, 6), "e"), drop(of(1, 5), own(0), 5)},
		{drop(of(1, 0), of(2, 0), 1), drop(of(1, 0), of(2, 1<<31-1), 4096)},
		{create("a"), insert(own(0), own(0), strings.Repeat("é", 2048)), drop(own(0), own(1), 2048)},
		{create("a"), insert(own(0), own(0), strings.Repeat("a", 4096)), drop(own(0), own(1), 4096), drop(own(0), own(4096), 1)},
		{create("a"), create("b"), insert(own(1), own(1), "x"), insert(own(1), own(2), "y"), remove(own(0)), insert(own(1), own(1), "z"), drop(own(1), own(2), 3)},
		{create("a"), insert(own(0), own(0), "\x00\n\x7f"), insert(own(0), of(2, 3), "x")},
		slices.Repeat([]api.Op{create("a")}, 4096),
	} {
		thereAndBack(t, change(ops...))
	}
	o := change(create("a"))
	for _, n := range []int{1, 1 << 40} {
		o.Change.Time = n
		thereAndBack(t, o)
	}
	o.Change.Author = strings.Repeat("x", 32)
	o.Change.Deps = ids(3, 5, 65535)
	thereAndBack(t, o)
	o.Change.Deps = []api.Id{}
	o.Commit.Parents = []api.Id{}
	o.Commit.Changes = []api.Id{}
	thereAndBack(t, o)
	o.Change.Deps = nil
	for n := range 4096 {
		o.Change.Deps = append(o.Change.Deps, id(n+1))
	}
	o.Change.Ops = []api.Op{insert(of(4096, 1), of(1, 2), "x")}
	thereAndBack(t, o)
}

// P8.1: changes that may not be, but for their operations.
func TestChangesWrong(t *testing.T) {
	for what, spoil := range map[string]func(o *api.Object){
		"time 0":          func(o *api.Object) { o.Change.Time = 0 },
		"time 2^40 + 1":   func(o *api.Object) { o.Change.Time = 1<<40 + 1 },
		"deps no set":     func(o *api.Object) { o.Change.Deps = ids(2, 1) },
		"deps twice":      func(o *api.Object) { o.Change.Deps = ids(1, 1) },
		"a zero dep":      func(o *api.Object) { o.Change.Deps = ids(0, 1) },
		"a zero dep only": func(o *api.Object) { o.Change.Deps = ids(0) },
		"no author":       func(o *api.Object) { o.Change.Author = "" },
		"author":          func(o *api.Object) { o.Change.Author = "a\n" },
		"author's text":   func(o *api.Object) { o.Change.Author = "\xff" },
		"author's length": func(o *api.Object) { o.Change.Author = strings.Repeat("x", 33) },
		"no ops":          func(o *api.Object) { o.Change.Ops = nil },
		"too many ops":    func(o *api.Object) { o.Change.Ops = slices.Repeat(o.Change.Ops, 4097) },
		"too many deps": func(o *api.Object) {
			o.Change.Deps = nil
			for n := range 4097 {
				o.Change.Deps = append(o.Change.Deps, id(n+1))
			}
		},
	} {
		o := change(create("a"))
		spoil(&o)
		refused(t, what, o)
	}
	o := change(create("a"))
	o.Change.Time = -1
	if object.Right(o) {
		t.Error("time below 0")
	}
	for what, spoil := range map[string]func(o *api.Object){
		"a parent":  func(o *api.Object) { o.Commit.Parents = ids(1) },
		"a change":  func(o *api.Object) { o.Commit.Changes = ids(1) },
		"an author": func(o *api.Object) { o.Commit.Author = "a" },
		"a message": func(o *api.Object) { o.Commit.Message = "a" },
		"a stamp":   func(o *api.Object) { o.Commit.Stamp = 1 },
		"a kind":    func(o *api.Object) { o.Kind = 3 },
		"no kind":   func(o *api.Object) { o.Kind = 0 },
		"the other": func(o *api.Object) { o.Kind = api.KCommit },
	} {
		o := change(create("a"))
		spoil(&o)
		if b, e := object.Encode(o); object.Right(o) || e != api.ErrArg || len(b) != 0 {
			t.Errorf("%s beside: %v, %d", what, b, e)
		}
	}
}

// P8.1, P8.2: operations that may not be: their refs, texts, counts, paths.
func TestOpsWrong(t *testing.T) {
	a, hi := create("a"), insert(own(0), own(0), "hi")
	for what, ops := range map[string][]api.Op{
		"a document that is made later":    {remove(own(0)), a},
		"its own index":                    {a, insert(own(0), own(1), "x")},
		"an element as a document":         {a, hi, remove(own(1))},
		"beyond what is made":              {a, hi, remove(own(3))},
		"of no dep":                        {remove(of(3, 0))},
		"index 2^31":                       {remove(of(1, 1<<31))},
		"rename of none":                   {rename(own(0), "b")},
		"insert into none":                 {insert(own(0), own(0), "x")},
		"insert at none":                   {a, hi, insert(own(0), own(3), "x")},
		"insert at index 2^31":             {a, insert(own(0), of(1, 1<<31), "x")},
		"insert at another document":       {a, a, insert(own(0), own(1), "x")},
		"insert at another's element":      {a, hi, create("b"), insert(own(3), own(1), "x")},
		"insert at a foreign one's":        {a, insert(of(1, 0), of(1, 0), "x"), insert(own(0), own(1), "y")},
		"insert at one of another index":   {insert(of(1, 0), of(1, 0), "x"), insert(of(1, 1), own(0), "y")},
		"insert at one of another change":  {insert(of(1, 0), of(1, 0), "x"), insert(of(2, 0), own(0), "y")},
		"no text":                          {a, insert(own(0), own(0), "")},
		"too long a text":                  {a, insert(own(0), own(0), strings.Repeat("x", 4097))},
		"text of too many bytes":           {a, insert(own(0), own(0), strings.Repeat("é", 2049))},
		"bytes that are no text":           {a, insert(own(0), own(0), "a\xff")},
		"delete of none":                   {a, hi, drop(own(0), own(1), 0)},
		"delete of too many":               {a, hi, drop(own(0), own(1), 3)},
		"delete of 4097":                   {drop(of(1, 0), of(1, 0), 4097)},
		"delete of its document":           {a, hi, drop(own(0), own(0), 1)},
		"delete from its document on":      {a, hi, drop(own(0), own(0), 2)},
		"delete over a document":           {a, hi, create("b"), insert(own(0), own(1), "x"), drop(own(0), own(1), 4)},
		"delete over another's":            {a, create("b"), insert(own(0), own(0), "x"), insert(own(1), own(1), "y"), drop(own(0), own(2), 2)},
		"delete of later ones":             {a, drop(own(0), own(1), 1), hi},
		"delete of a foreign index":        {drop(of(1, 0), of(1, 1<<31), 1)},
		"delete of a foreign no dep":       {drop(of(1, 0), of(5, 0), 1)},
		"delete in no dep":                 {drop(of(5, 0), of(1, 0), 1)},
		"delete with too great an index":   {a, hi, drop(own(0), own(math.MaxInt), 4096)},
		"delete with an index at the edge": {a, hi, drop(own(0), own(math.MaxInt), 1)},
		"remove with too great an index":   {a, remove(own(math.MaxInt))},
		"no path":                          {create("")},
		"a path that may not be":           {create("a/../b")},
		"rename to no path":                {rename(of(1, 0), "/a")},
		"too long a path":                  {create(strings.Repeat("x", 65))},
		"rename to a path that is no text": {rename(of(1, 0), "\xff")},
		"kind 0":                           {{Path: "a"}},
		"kind 6":                           {{Kind: 6}},
		"kind 255":                         {{Kind: 255, Path: "a"}},
		"the second one wrong":             {a, {Kind: 9}},
	} {
		refused(t, what, change(ops...))
	}
	for what, ops := range map[string][]api.Op{
		"insert at no dep":               {a, insert(own(0), of(3, 0), "x")},
		"a document's index below 0":     {remove(api.Ref{Index: -1})},
		"a foreign index below 0":        {remove(of(1, -1))},
		"an element's index below 0":     {a, hi, insert(own(0), own(-1), "x")},
		"a foreign element's":            {a, hi, insert(own(0), of(1, -1), "x")},
		"delete's index below 0":         {a, hi, drop(own(0), own(-1), 1)},
		"delete's least index":           {a, hi, drop(own(0), own(math.MinInt), 1)},
		"delete's count below 0":         {a, hi, drop(own(0), own(1), -1)},
		"a foreign delete's below 0":     {drop(of(1, 0), of(1, 0), math.MinInt)},
		"create with a doc":              {{Kind: api.OCreate, Path: "a", Doc: of(1, 0)}},
		"create with an index":           {{Kind: api.OCreate, Path: "a", Doc: own(1)}},
		"create with a place":            {{Kind: api.OCreate, Path: "a", At: of(1, 0)}},
		"create with a text":             {{Kind: api.OCreate, Path: "a", Text: "x"}},
		"create with a count":            {{Kind: api.OCreate, Path: "a", Count: 1}},
		"insert with a count":            {a, {Kind: api.OInsert, Text: "x", Count: 1}},
		"insert with a path":             {a, {Kind: api.OInsert, Text: "x", Path: "a"}},
		"delete with a text":             {{Kind: api.ODelete, Doc: of(1, 0), At: of(1, 1), Count: 1, Text: "x"}},
		"delete with a path":             {{Kind: api.ODelete, Doc: of(1, 0), At: of(1, 1), Count: 1, Path: "x"}},
		"rename with a place":            {{Kind: api.ORename, Doc: of(1, 0), At: of(1, 0), Path: "a"}},
		"rename with a text":             {{Kind: api.ORename, Doc: of(1, 0), Text: "x", Path: "a"}},
		"rename with a count":            {{Kind: api.ORename, Doc: of(1, 0), Count: -1, Path: "a"}},
		"remove with a place":            {{Kind: api.ORemove, Doc: of(1, 0), At: own(1)}},
		"remove with a text":             {{Kind: api.ORemove, Doc: of(1, 0), Text: "x"}},
		"remove with a count":            {{Kind: api.ORemove, Doc: of(1, 0), Count: 1}},
		"remove with a path":             {{Kind: api.ORemove, Doc: of(1, 0), Path: "a"}},
		"remove with no path, the other": {remove(of(1, 0)), {Kind: api.ORemove, Doc: of(1, 0), Path: "a"}},
	} {
		if b, e := object.Encode(change(ops...)); e != api.ErrArg || len(b) != 0 || object.Right(change(ops...)) {
			t.Errorf("%s: %v, %d", what, b, e)
		}
	}
}

// P8.1, P8.2: commits.
func TestCommits(t *testing.T) {
	for _, o := range []api.Object{commit(nil, nil), commit(ids(1), nil), commit(ids(1, 2), ids(1, 2, 3)), commit([]api.Id{}, []api.Id{}), commit(nil, ids(9))} {
		thereAndBack(t, o)
		for _, message := range []string{"", "a\n\x00", strings.Repeat("é", 128)} {
			for _, stamp := range []int{0, 1, 1 << 40} {
				o.Commit.Message, o.Commit.Stamp = message, stamp
				thereAndBack(t, o)
			}
		}
	}
	var many []api.Id
	for n := range 4097 {
		many = append(many, id(n+1))
	}
	thereAndBack(t, commit(nil, many[:4096]))
	refused(t, "4097 changes", commit(nil, many))
	refused(t, "3 parents", commit(ids(1, 2, 3), nil))
	refused(t, "parents no set", commit(ids(2, 1), nil))
	refused(t, "one parent twice", commit(ids(1, 1), nil))
	refused(t, "a zero parent", commit(ids(0, 1), nil))
	refused(t, "changes no set", commit(nil, ids(1, 3, 2)))
	refused(t, "a zero change", commit(nil, ids(0)))
	for what, spoil := range map[string]func(c *api.Commit){
		"no author":       func(c *api.Commit) { c.Author = "" },
		"author":          func(c *api.Commit) { c.Author = "\x7f" },
		"author's length": func(c *api.Commit) { c.Author = strings.Repeat("x", 33) },
		"message":         func(c *api.Commit) { c.Message = "\xff" },
		"too long":        func(c *api.Commit) { c.Message = strings.Repeat("x", 257) },
		"stamp":           func(c *api.Commit) { c.Stamp = 1<<40 + 1 },
	} {
		o := commit(ids(1), ids(2))
		spoil(&o.Commit)
		refused(t, what, o)
	}
	for what, spoil := range map[string]func(o *api.Object){
		"stamp below 0": func(o *api.Object) { o.Commit.Stamp = -1 },
		"a time":        func(o *api.Object) { o.Change.Time = 1 },
		"a dep":         func(o *api.Object) { o.Change.Deps = ids(1) },
		"an author":     func(o *api.Object) { o.Change.Author = "a" },
		"an op":         func(o *api.Object) { o.Change.Ops = []api.Op{{}} },
		"kind 1":        func(o *api.Object) { o.Kind = api.KChange },
		"kind 3":        func(o *api.Object) { o.Kind = 3 },
	} {
		o := commit(ids(1), ids(2))
		spoil(&o)
		if b, e := object.Encode(o); e != api.ErrArg || len(b) != 0 || object.Right(o) {
			t.Errorf("%s: %v, %d", what, b, e)
		}
	}
}

// P8.1, P8.2: objects of just as many bytes as may be, and of one more.
func TestLong(t *testing.T) {
	ops := []api.Op{create("a")}
	for len(plain(change(ops...))) < api.MaxObject-2*4096 {
		ops = append(ops, insert(own(0), own(0), strings.Repeat("x", 4096)))
	}
	ops = append(ops, insert(own(0), own(0), strings.Repeat("y", (api.MaxObject-len(plain(change(ops...))))/2)))
	rest := api.MaxObject - len(plain(change(append(ops, insert(own(0), own(0), strings.Repeat("z", 200)))...)))
	for more := range 3 {
		o := change(append(ops, insert(own(0), own(0), strings.Repeat("z", 200+rest-1+more)))...)
		b := plain(o)
		if want := api.MaxObject - 1 + more; len(b) != want {
			t.Fatal(len(b), want)
		}
		if more < 2 {
			thereAndBack(t, o)
			continue
		}
		got, e := object.Encode(o)
		if e != api.ErrLong || len(got) != 0 || !object.Right(o) {
			t.Error("2^18 + 1 bytes:", e)
		}
		if id, e := object.Id(o); e != api.ErrLong || id != (api.Id{}) {
			t.Error("2^18 + 1 bytes, the id:", e)
		}
		if got, e := object.Decode(b); e != api.ErrLong || !reflect.DeepEqual(got, api.Object{}) {
			t.Error("2^18 + 1 bytes, read:", e)
		}
	}
	for _, n := range []int{api.MaxObject, api.MaxObject + 1} {
		want := api.ErrForm
		if n > api.MaxObject {
			want = api.ErrLong
		}
		if _, e := object.Decode(make([]byte, n)); e != want {
			t.Error(n, e)
		}
	}
}

// P8.2: bytes that are of no form: cut off, too many, numbers that are too long, lists that say too much.
func TestFormless(t *testing.T) {
	for _, o := range []api.Object{
		commit(ids(1, 2), ids(3)),
		change(create("a"), insert(own(0), own(0), "héé"), insert(own(0), of(1, 3), "x"), drop(own(0), own(1), 4), rename(of(2, 300), "b"), remove(own(0))),
	} {
		b := plain(o)
		for n := range b {
			formless(t, "cut off", b[:n])
		}
		for _, c := range []byte{0, 1, 'C', 255} {
			formless(t, "a byte behind", append(slices.Clone(b), c))
			formless(t, "a byte ahead", append([]byte{c}, b...))
		}
	}
	formless(t, "none", nil)
	for _, b := range []string{
		"K\x80\x00\x00\x01a\x00\x00", "K\x00\x00\x01a\x00\x80\x00", "K\x00\x00\x01a\x81\x00m\x00",
		"K\xff\xff\xff\xff\xff\xff\xff\xff\x7f", "K\x00\xff\xff\xff\xff\xff\xff\xff\xff\x7f", "C\x01\xff\xff\xff\xff\xff\xff\xff\xff\x7f",
		"C\x01\x00\x01a\xff\xff\xff\xff\xff\xff\xff\xff\x7f\x03\x01a", "C\x01\x00\x01a\xff\xff\xff\xff\xff\xff\xff\xff\x7f",
		"C\x01\x00\x01a\x01\x05\x01\x00", "C\x01\x00\x01a\x01\x05\xff\xff\xff\xff\xff\xff\xff\xff\x7f\x00", "C\x01\x00\x01a\x02\x03\x01a\x05\x00\xff\xff\xff\xff\xff\xff\xff\xff\x7f",
		"c\x01\x00\x01a\x01\x03\x01a", "k\x00\x00\x01a\x00\x00", "\x01\x00",
	} {
		formless(t, "a literal", []byte(b))
	}
	if _, e := object.Decode([]byte("C\x01\x00\x01a\x01\x03\x01a")); e != api.OK {
		t.Error(e)
	}
}

// someChange is one whose operations may be, for the most part.
func someChange(chance *rand.Rand) api.Object {
	ref := func() api.Ref {
		if chance.Intn(3) == 0 {
			return of(1+chance.Intn(2), chance.Intn(3))
		}
		return own(chance.Intn(6))
	}
	texts := []string{"a", "é", "ab", "a€b", "\U0001f600"}
	var ops []api.Op
	ops = append(ops, create("a"), insert(own(0), own(0), texts[chance.Intn(len(texts))]))
	for range 1 + chance.Intn(4) {
		switch chance.Intn(7) {
		case 0:
			ops = append(ops, create("b"))
		case 1:
			ops = append(ops, rename(ref(), "c"))
		case 2:
			ops = append(ops, remove(ref()))
		case 3, 4:
			r := ref()
			ops = append(ops, insert(r, r, texts[chance.Intn(len(texts))]))
		case 5:
			ops = append(ops, insert(own(0), ref(), texts[chance.Intn(len(texts))]))
		case 6:
			ops = append(ops, drop(own(0), ref(), 1+chance.Intn(4)))
		}
	}
	return change(ops...)
}

// may: may a change's refs be, each index being kept with what it is of?
func may(c api.Change) bool {
	type made struct {
		element bool
		doc     api.Ref
	}
	var all []made
	there := func(r api.Ref, element bool, doc api.Ref) bool {
		if r.Change != (api.Id{}) {
			return slices.Contains(c.Deps, r.Change)
		}
		return r.Index < len(all) && all[r.Index] == made{element, doc}
	}
	for _, op := range c.Ops {
		if op.Kind != api.OCreate && !there(op.Doc, false, api.Ref{}) {
			return false
		}
		switch op.Kind {
		case api.OInsert:
			if op.At != op.Doc && !there(op.At, true, op.Doc) {
				return false
			}
			for range op.Text {
				all = append(all, made{true, op.Doc})
			}
		case api.ODelete:
			for n := range op.Count {
				if at := op.At; !there(api.Ref{Change: at.Change, Index: at.Index + n}, true, op.Doc) {
					return false
				}
			}
		case api.OCreate:
			all = append(all, made{})
		}
	}
	return true
}

// P8.1, P8.2: any refs, as each index is kept with what it is of; P8.3: as many indexes as are made.
func TestAnyRefs(t *testing.T) {
	chance := rand.New(rand.NewSource(8))
	right := 0
	for range 30000 {
		o := someChange(chance)
		if may(o.Change) {
			right++
			thereAndBack(t, o)
		} else {
			refused(t, "refs", o)
		}
		size := 0
		for _, op := range o.Change.Ops {
			size += utf8.RuneCountInString(op.Text)
			if op.Kind == api.OCreate {
				size++
			}
		}
		if got := object.Size(o.Change); got != size {
			t.Errorf("%+v: size %d, not %d", o, got, size)
		}
	}
	if right < 3000 || right > 27000 {
		t.Error("may be:", right)
	}
}

// P8.2: bytes that are changed here and there are an object's just if that one is written by them.
func TestAnyBytes(t *testing.T) {
	chance := rand.New(rand.NewSource(9))
	read := 0
	for range 40000 {
		var b []byte
		if o := someChange(chance); chance.Intn(2) == 0 && may(o.Change) {
			b = plain(o)
		} else {
			b = plain(commit(ids(1, 2)[:chance.Intn(3)], ids(1, 7)[:chance.Intn(3)]))
		}
		for range 1 + chance.Intn(2) {
			at := chance.Intn(len(b))
			switch chance.Intn(3) {
			case 0:
				b[at] = byte(chance.Intn(256))
			case 1:
				b[at] += byte(chance.Intn(3)) - 1
			case 2:
				b = slices.Insert(b, at, byte(chance.Intn(4)))
			}
		}
		given := slices.Clone(b)
		o, e := object.Decode(b)
		if !slices.Equal(b, given) {
			t.Fatal("changed")
		}
		if e != api.OK {
			formless(t, "any", b)
			continue
		}
		read++
		if again, e := object.Encode(o); e != api.OK || !slices.Equal(again, b) || !slices.Equal(plain(o), b) {
			t.Fatalf("%v: %+v, %v", b, o, again)
		}
	}
	if read < 1000 {
		t.Error("read:", read)
	}
}

// P8.3: sizes, of changes that may not be too.
func TestSize(t *testing.T) {
	for _, c := range []struct {
		ops  []api.Op
		want int
	}{
		{nil, 0}, {[]api.Op{create("")}, 1}, {[]api.Op{create("a"), create("a")}, 2}, {[]api.Op{insert(own(9), own(9), "aé€")}, 3},
		{[]api.Op{insert(own(0), own(0), "ab\xff")}, 0}, {[]api.Op{insert(own(0), own(0), "ab\xff"), insert(own(0), own(0), "c"), create("x")}, 2},
		{[]api.Op{insert(own(0), own(0), "")}, 0}, {[]api.Op{drop(own(0), own(0), 5), rename(own(0), "a"), remove(own(0))}, 0},
		{[]api.Op{{Kind: 6, Text: "abc"}, {Text: "abc"}, {Kind: api.OCreate, Text: "abc"}, {Kind: api.ORename, Text: "abc"}}, 1},
		{[]api.Op{insert(own(0), own(0), strings.Repeat("é", 5000))}, 5000},
	} {
		if got := object.Size(api.Change{Ops: c.ops}); got != c.want {
			t.Errorf("%+v: %d", c.ops, got)
		}
	}
}

// P8.3: the ids in an object, of any one; not changed, new memory.
func TestLinks(t *testing.T) {
	both := api.Object{Change: api.Change{Deps: ids(3, 1, 3)}, Commit: api.Commit{Parents: ids(5, 4), Changes: ids(4, 0, 2)}}
	for kind, want := range map[uint8][]api.Id{api.KChange: ids(1, 3), api.KCommit: ids(0, 2, 4, 5), 0: nil, 3: nil, 255: nil} {
		both.Kind = kind
		if got := object.Links(both); !slices.Equal(got, want) {
			t.Errorf("kind %d: %v", kind, got)
		}
	}
	if !slices.Equal(both.Change.Deps, ids(3, 1, 3)) || !slices.Equal(both.Commit.Parents, ids(5, 4)) || !slices.Equal(both.Commit.Changes, ids(4, 0, 2)) {
		t.Error("changed")
	}
	if got := object.Links(change()); !slices.Equal(got, ids(1, 2)) {
		t.Error(got)
	}
	o := change()
	object.Links(o)[0] = id(9)
	if o.Change.Deps[0] != id(1) {
		t.Error("shared")
	}
	parents := append(ids(4), id(8))[:1]
	object.Links(api.Object{Kind: api.KCommit, Commit: api.Commit{Parents: parents, Changes: ids(6)}})
	if parents[:2][1] != id(8) {
		t.Error("the spare room is written to")
	}
	if l := object.Links(api.Object{Kind: api.KCommit}); len(l) != 0 {
		t.Error(l)
	}
}

// P8.1, P8.2 (R4): what is handed in is neither changed nor kept, what is handed out is new.
func TestNewMemory(t *testing.T) {
	o := change(create("a"), insert(own(0), own(0), "hi"))
	b, _ := object.Encode(o)
	given := slices.Clone(b)
	got, _ := object.Decode(b)
	for i := range b {
		b[i] = 'x'
	}
	if !same(got, o) {
		t.Error("what is read hangs on its bytes")
	}
	got.Change.Deps[0] = id(9)
	got.Change.Ops[0].Path = "z"
	if again, _ := object.Decode(given); !same(again, o) {
		t.Error("answers hang together")
	}
	if again, _ := object.Encode(o); !slices.Equal(again, given) {
		t.Error("bytes hang together")
	}
}
