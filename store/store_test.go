package store

import (
	"bytes"
	"fmt"
	"maps"
	"math"
	"math/rand"
	"slices"
	"strings"
	"testing"

	"twinkeep/api"
	"twinkeep/disk"
	"twinkeep/entry"
	"twinkeep/log"
	"twinkeep/policy"
	"twinkeep/segment"
)

// segOf: a segment of tier 0; of one id there is one for each from.
func segOf(id int, from int64) api.Seg {
	return api.Seg{Id: id, From: from, To: from + 10, Samples: []api.Sample{{T: from, V: int64(id)}, {T: from + 9, V: -5}}}
}

// aggsOf: a segment of tier 2.
func aggsOf(id int) api.Seg {
	return api.Seg{Id: id, Tier: 2, From: 60, To: 180, Aggs: []api.Agg{{From: 60, Count: 1, Sum: 7, Min: 7, Max: 7, First: 7, Last: 7}}}
}

func bytesOf(s api.Seg) []byte {
	b, code := segment.Put(s)
	if code != api.OK {
		panic("the test's own segments")
	}
	return b
}

// infoOf: what a manifest tells of the segment of which b are the bytes.
func infoOf(b []byte) api.Info {
	i, code := segment.Info(b)
	if code != api.OK {
		panic("the test's own segments")
	}
	return i
}

func adding(b []byte, view int) api.Entry {
	i := infoOf(b)
	return api.Entry{Kind: api.EAdd, View: view, Id: i.Id, Tier: i.Tier, From: i.From, To: i.To, Sum: i.Sum}
}

func dropping(id, view int) api.Entry { return api.Entry{Kind: api.EDrop, View: view, Id: id} }

func viewing(view int) api.Entry { return api.Entry{Kind: api.EView, View: view} }

func ruling(text string, view int) api.Entry {
	return api.Entry{Kind: api.ERule, View: view, Text: text}
}

func logOf(l []api.Entry) []byte {
	b, code := log.All(l)
	if code != api.OK {
		panic("the test's own entries")
	}
	return b
}

// plain: a store and its disk by the words alone, against which the two are held.
type plain struct {
	room   int
	l      []api.Entry
	sure   int               // entries
	files  map[string]string // all but the log; all their bytes are sure
	hasLog bool
}

func newPlain(room int) *plain { return &plain{room: room, files: map[string]string{}} }

// there: which segments are there behind l, by Id.
func there(l []api.Entry) map[int]api.Info {
	m := map[int]api.Info{}
	for _, e := range l {
		switch e.Kind {
		case api.EAdd:
			m[e.Id] = api.Info{Id: e.Id, Tier: e.Tier, From: e.From, To: e.To, Sum: e.Sum}
		case api.EDrop:
			delete(m, e.Id)
		}
	}
	return m
}

func (p *plain) names() []string {
	l := slices.Collect(maps.Keys(p.files))
	if p.hasLog {
		l = append(l, "log")
	}
	slices.Sort(l)
	return l
}

func (p *plain) used() int {
	n := len(logOf(p.l))
	for _, b := range p.files {
		n += len(b)
	}
	return n
}

// fault: why e may not come next, whatever its Kind.
func (p *plain) fault(e api.Entry) int {
	_, _, _, code := entry.Fold(append(slices.Clone(p.l), e))
	if code == api.OK && len(p.l) >= 2000 {
		return api.ErrFull
	}
	return code
}

// add: the entry's Frame on the disk, if there is room.
func (p *plain) add(e api.Entry) int {
	if p.used()+len(logOf([]api.Entry{e})) > p.room || !p.hasLog && len(p.files) >= 200 {
		return api.ErrFull
	}
	p.l, p.hasLog = append(slices.Clone(p.l), e), true
	return api.OK
}

func (p *plain) put(e api.Entry) int {
	if code := p.fault(e); code != api.OK {
		return code
	}
	if e.Kind == api.EAdd || e.Kind == api.EDrop {
		return api.ErrArg
	}
	return p.add(e)
}

func (p *plain) install(b []byte, view int) int {
	if _, code := segment.Info(b); code != api.OK {
		return code
	}
	e := adding(b, view)
	if code := p.fault(e); code != api.OK {
		return code
	}
	name := fmt.Sprintf("s%d", e.Id)
	delete(p.files, name)
	if p.used()+len(b) > p.room || len(p.names()) >= 200 {
		return api.ErrFull
	}
	p.files[name] = string(b)
	code := p.add(e)
	if code != api.OK {
		delete(p.files, name)
	}
	return code
}

func (p *plain) drop(id, view int) int {
	code := p.fault(dropping(id, view))
	if code == api.OK {
		code = p.add(dropping(id, view))
	}
	if code == api.OK {
		p.sure = len(p.l)
		delete(p.files, fmt.Sprintf("s%d", id))
	}
	return code
}

func (p *plain) cut(n int) int {
	if n < 0 || n > len(p.l) {
		return api.ErrRange
	}
	was, is := there(p.l), there(p.l[:n])
	for id := range is {
		if _, ok := was[id]; ok {
			continue
		}
		if _, ok := p.files[fmt.Sprintf("s%d", id)]; !ok {
			return api.ErrNone
		}
	}
	for id := range was {
		if _, ok := is[id]; !ok {
			delete(p.files, fmt.Sprintf("s%d", id))
		}
	}
	p.l, p.sure = p.l[:n], n
	return api.OK
}

// open: Open, and ahead of it a crash that keeps so many bytes of the log that were not sure.
func (p *plain) open(keep int) int {
	n := p.sure
	for n < len(p.l) && len(logOf(p.l[p.sure:n+1])) <= keep {
		n++
	}
	p.l, p.sure = p.l[:n], n
	for id, i := range there(p.l) {
		b, ok := p.files[fmt.Sprintf("s%d", id)]
		if !ok {
			return api.ErrBytes
		}
		if told, code := segment.Info([]byte(b)); code != api.OK || told != i {
			return api.ErrBytes
		}
	}
	for name := range p.files {
		if isOf(name) && !slices.ContainsFunc(slices.Collect(maps.Keys(there(p.l))), func(id int) bool { return name == fmt.Sprintf("s%d", id) }) {
			delete(p.files, name)
		}
	}
	return api.OK
}

// isOf: "s" and digits, the first one not 0.
func isOf(name string) bool {
	if len(name) < 2 || name[0] != 's' || name[1] == '0' {
		return false
	}
	for _, c := range name[1:] {
		if c < '0' || c > '9' {
			return false
		}
	}
	return true
}

// site: a disk with its store, and what they are to be by the words.
type site struct {
	t    *testing.T
	d    *disk.Disk
	s    *Store
	want *plain
	made map[uint32]string // bytes that were installed, by their sum
}

func newSite(t *testing.T, room int) *site {
	t.Helper()
	x := &site{t: t, d: disk.New(room), want: newPlain(room), made: map[uint32]string{}}
	x.reopen(api.OK)
	return x
}

// reopen: Open, which is to tell the code; all is checked.
func (x *site) reopen(want int) {
	x.t.Helper()
	s, code := Open(x.d)
	if code != want || (s == nil) != (want != api.OK) {
		x.t.Fatalf("Open = %v, %d; want %d", s, code, want)
	}
	if want == api.OK {
		x.s = s
	}
}

// log: what the disk has as the manifest.
func (x *site) log() []byte {
	b, _ := x.d.Read("log")
	return b
}

// check: all that is told, twice, each time spoilt behind the call; and what stands on the disk.
func (x *site) check(doing string) {
	x.t.Helper()
	infos := slices.Collect(maps.Values(there(x.want.l)))
	slices.SortFunc(infos, func(a, b api.Info) int { return a.Id - b.Id })
	_, rule, _, code := entry.Fold(x.want.l)
	if code != api.OK {
		x.t.Fatalf("%s: the words lead to code %d", doing, code)
	}
	for range 2 {
		l, got := x.s.Entries(), x.s.Infos()
		if !slices.Equal(l, x.want.l) || !slices.Equal(got, infos) || x.s.Sure() != x.want.sure || x.s.Rule() != rule {
			x.t.Fatalf("%s: %v, %v, %d sure, %v; want %v, %v, %d, %v", doing, l, got, x.s.Sure(), x.s.Rule(), x.want.l, infos, x.want.sure, rule)
		}
		clear(l)
		clear(got)
		_, _ = append(l, viewing(7)), append(got, api.Info{Id: 7})
	}
	for _, i := range infos {
		x.checkSeg(doing, i.Id)
	}
	if !slices.Equal(x.d.Names(), x.want.names()) || x.d.Used() != x.want.used() || !bytes.Equal(x.log(), logOf(x.want.l)) {
		x.t.Fatalf("%s: %v, %d bytes, log % .40X; want %v, %d, % .40X", doing, x.d.Names(), x.d.Used(), x.log(), x.want.names(), x.want.used(), logOf(x.want.l))
	}
	for name, b := range x.want.files {
		if got, code := x.d.Read(name); string(got) != b || code != api.OK {
			x.t.Fatalf("%s: file %s = % .40X, %d; want % .40X", doing, name, got, code, b)
		}
	}
}

// checkSeg: what Seg tells of a segment that is there, twice, spoilt behind the call.
func (x *site) checkSeg(doing string, id int) {
	x.t.Helper()
	want, _ := segment.Get([]byte(x.want.files[fmt.Sprintf("s%d", id)]))
	for range 2 {
		got, code := x.s.Seg(id)
		if code != api.OK || !segment.Same(got, want) {
			x.t.Fatalf("%s: Seg(%d) = %v, %d; want %v", doing, id, got, code, want)
		}
		clear(got.Samples)
		clear(got.Aggs)
	}
}

// is: got is the code that the words tell; all is checked.
func (x *site) is(doing string, got, want int) {
	x.t.Helper()
	if got != want {
		x.t.Fatalf("%s = %d; want %d", doing, got, want)
	}
	x.check(doing)
}

func (x *site) put(e api.Entry) int {
	x.t.Helper()
	want := x.want.put(e)
	x.is(fmt.Sprintf("Put(%.80v)", e), x.s.Put(e), want)
	return want
}

// install: b is not changed, and is spoilt behind the call, so that the store may not have kept it.
func (x *site) install(b []byte, view int) int {
	x.t.Helper()
	want := x.want.install(b, view)
	given := slices.Clone(b)
	code := x.s.Install(given, view)
	if i, wrong := segment.Info(b); wrong == api.OK {
		x.made[i.Sum] = string(b)
	}
	if !bytes.Equal(given, b) {
		x.t.Fatalf("Install(% .40X, %d) changed the bytes", b, view)
	}
	clear(given)
	x.is(fmt.Sprintf("Install(% .40X, %d)", b, view), code, want)
	return want
}

func (x *site) drop(id, view int) int {
	x.t.Helper()
	want := x.want.drop(id, view)
	x.is(fmt.Sprintf("Drop(%d, %d)", id, view), x.s.Drop(id, view), want)
	return want
}

func (x *site) cut(n int) int {
	x.t.Helper()
	want := x.want.cut(n)
	x.is(fmt.Sprintf("Cut(%d)", n), x.s.Cut(n), want)
	return want
}

func (x *site) sync() {
	x.t.Helper()
	x.want.sure = len(x.want.l)
	x.is("Sync()", x.s.Sync(), api.OK)
}

// crash: the disk crashes, keeping so many bytes of the log that are not sure, none of any other file; then it is opened.
func (x *site) crash(keep int) {
	x.t.Helper()
	at, _ := slices.BinarySearch(x.d.Names(), "log")
	l := make([]int, at+1)
	l[at] = keep
	x.d.Crash(l)
	x.reopen(x.want.open(keep))
	x.check(fmt.Sprintf("Crash keeping %d, Open", keep))
}

// lay: a file that the store did not make, sure.
func (x *site) lay(name, text string) {
	x.t.Helper()
	x.d.Remove(name)
	if code := x.d.Append(name, []byte(text)); code != api.OK {
		x.t.Fatal(name, code)
	}
	x.d.Sync(name)
	x.want.files[name] = text
}

// layBack: the file of a segment that was dropped is there again; of one that was never added, there is another file.
func (x *site) layBack(id int) {
	x.t.Helper()
	name, text := fmt.Sprintf("s%d", id), "x"
	if _, ok := there(x.want.l)[id]; ok {
		return
	}
	at := slices.IndexFunc(x.want.l, func(e api.Entry) bool { return e.Kind == api.EAdd && e.Id == id })
	if at >= 0 {
		text = x.made[x.want.l[at].Sum]
	}
	if x.want.used()+len(text) <= x.want.room {
		x.lay(name, text)
	}
}

// took: the code that was told, against the one that the test's writer wants, so that the words and the store can't be wrong together.
func took(t *testing.T, got, want int) {
	t.Helper()
	if got != want {
		t.Fatalf("code %d; want %d", got, want)
	}
}

// 12.1, 12.3: an empty disk has a store without entries, and no file is made.
func TestOpenEmpty(t *testing.T) {
	for _, room := range []int{0, 1000, api.MaxDisk} {
		x := newSite(t, room)
		x.check("Open")
		if x.s.Rule() != policy.Default() || len(x.d.Names()) != 0 {
			t.Fatal(x.s.Rule(), x.d.Names())
		}
	}
	if s, code := Open(nil); s != nil || code != api.ErrArg {
		t.Fatal(s, code)
	}
	if s, code := Open(&disk.Disk{}); s == nil || code != api.OK {
		t.Fatal(s, code)
	}
}

// 12.2: where there is no log yet, Sync and Cut(0) are well, and make none.
func TestNoLog(t *testing.T) {
	x := newSite(t, 1000)
	x.sync()
	took(t, x.cut(0), api.OK)
	took(t, x.cut(1), api.ErrRange)
	took(t, x.cut(-1), api.ErrRange)
	x.crash(0)
	x.sync()
	took(t, x.drop(1, 1), api.ErrNone)
	took(t, x.put(viewing(1)), api.OK)
	took(t, x.cut(0), api.OK) // this one stays, as an empty file
	if !slices.Equal(x.d.Names(), []string{"log"}) {
		t.Fatal(x.d.Names())
	}
	x.crash(0)
	x.sync()
	took(t, x.cut(0), api.OK)
}

// 12.2, 12.3: a store's ordinary ways, told by hand.
func TestOrdinary(t *testing.T) {
	x := newSite(t, 10000)
	took(t, x.put(viewing(1)), api.OK)
	took(t, x.install(bytesOf(segOf(3, 0)), 1), api.OK)
	took(t, x.install(bytesOf(segOf(1, 10)), 1), api.OK)
	took(t, x.install(bytesOf(aggsOf(2)), 1), api.OK)
	took(t, x.put(ruling("seal 5", 1)), api.OK)
	if x.s.Sure() != 0 || x.s.Rule().Count != 5 || len(x.s.Entries()) != 5 || !slices.Equal(x.d.Names(), []string{"log", "s1", "s2", "s3"}) {
		t.Fatal(x.s.Sure(), x.s.Rule(), x.s.Entries(), x.d.Names())
	}
	if l := x.s.Infos(); len(l) != 3 || l[0] != infoOf(bytesOf(segOf(1, 10))) || l[1] != infoOf(bytesOf(aggsOf(2))) || l[2] != infoOf(bytesOf(segOf(3, 0))) {
		t.Fatal(l)
	}
	x.sync()
	took(t, x.drop(3, 2), api.OK)
	if x.s.Sure() != 6 {
		t.Fatal(x.s.Sure())
	}
	took(t, x.put(viewing(2)), api.OK)
	took(t, x.drop(3, 2), api.ErrNone)
	took(t, x.install(bytesOf(segOf(3, 0)), 2), api.ErrTwice)
	took(t, x.install(bytesOf(segOf(4, 20)), 1), api.ErrView)
	took(t, x.drop(1, 1), api.ErrView)
	took(t, x.put(ruling("seal 6", 1)), api.ErrView)
	if x.s.Sure() != 6 {
		t.Fatal(x.s.Sure())
	}
	took(t, x.cut(6), api.OK)
	took(t, x.cut(5), api.ErrNone) // 3 would be there again
	took(t, x.cut(2), api.ErrNone)
	took(t, x.cut(1), api.OK) // ahead of it 3 is not there either
	if x.s.Rule() != policy.Default() || !slices.Equal(x.d.Names(), []string{"log"}) {
		t.Fatal(x.s.Rule(), x.d.Names())
	}
	took(t, x.install(bytesOf(segOf(3, 50)), 1), api.OK) // what was cut off was never there
	for _, id := range []int{0, -1, 1, 2, 4, math.MinInt, math.MaxInt} {
		if got, code := x.s.Seg(id); code != api.ErrNone || !segment.Same(got, api.Seg{}) {
			t.Fatalf("Seg(%d) = %v, %d", id, got, code)
		}
	}
}

// 12.2: what may not be is told, and nothing changes; the error that is named first goes first.
func TestWrong(t *testing.T) {
	x := newSite(t, 10000)
	b := bytesOf(segOf(3, 0))
	took(t, x.install(b, 2), api.OK)
	for _, e := range []api.Entry{
		{}, viewing(0), viewing(-1), viewing(api.MaxViews + 1), ruling("x", 2), ruling(strings.Repeat("#", 301), 2), {Kind: 5, View: 2}, {Kind: math.MinInt},
		adding(bytesOf(segOf(4, 0)), 2), dropping(3, 2), {Kind: api.EView, View: 2, Text: "seal 5"}, dropping(0, 2), {Kind: api.EAdd, View: 2, Id: 3},
	} {
		took(t, x.put(e), api.ErrArg)
	}
	took(t, x.put(viewing(1)), api.ErrView)
	took(t, x.put(adding(b, 1)), api.ErrTwice)
	took(t, x.put(adding(bytesOf(segOf(4, 0)), 1)), api.ErrView)
	took(t, x.put(dropping(4, 2)), api.ErrNone)
	took(t, x.put(dropping(3, 1)), api.ErrView)
	for _, view := range []int{-1, api.MaxViews + 1, math.MinInt, math.MaxInt} {
		took(t, x.install(bytesOf(segOf(4, 0)), view), api.ErrArg)
		took(t, x.install(b, view), api.ErrArg)
		took(t, x.install(b[1:], view), api.ErrBytes)
		took(t, x.drop(3, view), api.ErrArg)
		took(t, x.drop(4, view), api.ErrArg)
	}
	for _, id := range []int{0, -1, api.MaxViews + 1, math.MinInt, math.MaxInt} {
		took(t, x.drop(id, 2), api.ErrArg)
	}
	took(t, x.install(b, 1), api.ErrTwice)
	took(t, x.drop(4, 1), api.ErrNone)
	took(t, x.install(bytesOf(segOf(4, 0)), 1), api.ErrView)
	took(t, x.install(nil, 2), api.ErrBytes)
	for i := range b {
		took(t, x.install(b[:i], 2), api.ErrBytes)
		wrong := slices.Clone(b)
		wrong[i]++
		took(t, x.install(wrong, 2), api.ErrBytes)
	}
	took(t, x.install(append(slices.Clone(b), 0), 2), api.ErrBytes)
	took(t, x.install(make([]byte, 1<<20), 2), api.ErrBytes)
	for _, n := range []int{-1, 2, math.MinInt, math.MaxInt} {
		took(t, x.cut(n), api.ErrRange)
	}
	took(t, x.install(bytesOf(segOf(api.MaxViews, 0)), api.MaxViews), api.OK)
	took(t, x.put(viewing(api.MaxViews)), api.OK)
}

// 12.1, 12.2: of a nil store all is told as such; one that nobody opened ends every call, too.
func TestNil(t *testing.T) {
	b := bytesOf(segOf(3, 0))
	var s *Store
	for i, code := range []int{
		s.Put(viewing(1)), s.Put(api.Entry{}), s.Put(dropping(1, 1)), s.Install(b, 1), s.Install(nil, 1), s.Install(b, -1), s.Drop(1, 1), s.Drop(0, 1), s.Cut(0), s.Cut(-1), s.Cut(1), s.Sync(),
	} {
		if code != api.ErrState {
			t.Error(i, code)
		}
	}
	if got, code := s.Seg(1); code != api.ErrState || !segment.Same(got, api.Seg{}) {
		t.Error(got, code)
	}
	if len(s.Infos()) != 0 || len(s.Entries()) != 0 || s.Sure() != 0 || s.Rule() != (api.Policy{}) {
		t.Error(s.Infos(), s.Entries(), s.Sure(), s.Rule())
	}
	s = &Store{}
	if s.Put(viewing(1)) != api.ErrState || s.Install(b, 1) != api.ErrState || s.Drop(1, 1) != api.ErrNone || s.Cut(0) != api.ErrState || s.Sync() != api.ErrState || len(s.Entries()) != 0 {
		t.Error("a store that nobody opened")
	}
}

// opened: the store of a disk that has just these files, all sure.
func opened(t *testing.T, files map[string]string) (*disk.Disk, *Store, int) {
	t.Helper()
	d := disk.New(api.MaxDisk)
	for name, text := range files {
		if d.Append(name, []byte(text)) != api.OK || d.Sync(name) != api.OK {
			t.Fatal(name)
		}
	}
	s, code := Open(d)
	return d, s, code
}

// 12.1: all files that are named as segments, and are none of the manifest's, go; all others stay.
func TestOpenRemoves(t *testing.T) {
	b := bytesOf(segOf(12, 0))
	l := []api.Entry{adding(b, 1), viewing(3)}
	stay := []string{"0", "1", "1s", "a", "log", "log1", "logs", "s", "s.", "s.1", "s0", "s01", "s012", "s1.", "s12", "s1s", "s1x", "ss1", "sx", "sx1", "t1", "t12", "z", "s0000000000000000000", "s12.", "s1.2", "s12a"}
	files := map[string]string{"log": string(logOf(l)), "s12": string(b)}
	for _, name := range stay {
		if _, ok := files[name]; !ok {
			files[name] = name
		}
	}
	for _, name := range []string{"s1", "s2", "s10", "s11", "s13", "s120", "s121", "s9999999999999999999", "s1073741824", "s1073741825", "s1000000000000000000", "s18446744073709551628"} {
		if len(name) <= api.MaxName {
			files[name] = string(b)
		}
	}
	d, s, code := opened(t, files)
	if code != api.OK || !slices.Equal(s.Entries(), l) || s.Sure() != 2 {
		t.Fatal(s, code)
	}
	slices.Sort(stay)
	if !slices.Equal(d.Names(), stay) {
		t.Fatalf("%v; want %v", d.Names(), stay)
	}
	for _, name := range stay {
		if b, code := d.Read(name); string(b) != files[name] || code != api.OK {
			t.Fatalf("%s = % .40X, %d", name, b, code)
		}
	}
}

// 12.1: as many as a disk can have go, with and without a log.
func TestOpenRemovesMany(t *testing.T) {
	for _, hasLog := range []bool{false, true} {
		files := map[string]string{}
		for i := range api.MaxFiles {
			files[fmt.Sprintf("s%d", 100+i)] = "x"
		}
		if hasLog {
			delete(files, "s199")
			files["log"] = string(logOf([]api.Entry{viewing(1)}))
		}
		d, s, code := opened(t, files)
		if code != api.OK || len(s.Entries()) != d.Used()/7 || len(d.Names()) > 1 || (len(d.Names()) == 1) != hasLog {
			t.Fatal(code, d.Names())
		}
	}
}

// 12.1: a segment without its file, or with another one, is told; then no file goes, but the log is cut, and sure.
func TestOpenBytes(t *testing.T) {
	s := segOf(7, 100)
	b := bytesOf(s)
	wrong := [][]byte{nil, {}, []byte("x"), append(slices.Clone(b), 0), bytesOf(segOf(8, 100)), bytesOf(segOf(7, 101)), bytesOf(aggsOf(7))}
	later, other := s, segOf(7, 100)
	later.To++
	other.Samples[0].V++
	wrong = append(wrong, bytesOf(later), bytesOf(other))
	for i := range b {
		changed := slices.Clone(b)
		changed[i] ^= 1
		wrong = append(wrong, b[:i], changed)
	}
	l := []api.Entry{adding(bytesOf(segOf(5, 0)), 1), adding(b, 1), adding(bytesOf(segOf(9, 0)), 1)}
	torn := string(logOf(l)) + string(logOf([]api.Entry{viewing(1)})[:5])
	for i, x := range wrong {
		files := map[string]string{"log": torn, "s5": string(bytesOf(segOf(5, 0))), "s7": string(x), "s9": string(bytesOf(segOf(9, 0))), "s3": "x"}
		if i == 0 {
			delete(files, "s7")
		}
		d, s, code := opened(t, files)
		if s != nil || code != api.ErrBytes {
			t.Fatalf("with % .40X: %v, %d", x, s, code)
		}
		if got, _ := d.Read("log"); len(d.Names()) != len(files) || !bytes.Equal(got, logOf(l)) {
			t.Fatalf("with % .40X: %v, % .40X", x, d.Names(), got)
		}
		d.Remove("s7")
		d.Append("s7", b)
		if s, code := Open(d); code != api.OK || len(s.Infos()) != 3 || len(d.Names()) != 4 {
			t.Fatalf("with the right file again: %d, %v", code, d.Names())
		}
	}
}

// 12.1: where the manifest tells anything else of a segment than its file has, this is told.
func TestOpenInfo(t *testing.T) {
	b := bytesOf(aggsOf(7))
	right := adding(b, 1)
	id, tier, from, to, sum := right, right, right, right, right
	id.Id, tier.Tier, from.From, to.To, sum.Sum = 8, 1, 61, 179, right.Sum+1
	for i, e := range []api.Entry{right, id, tier, from, to, sum} {
		want := api.ErrBytes
		if i == 0 {
			want = api.OK
		}
		if _, s, code := opened(t, map[string]string{"log": string(logOf([]api.Entry{e})), segment.Name(e.Id): string(b)}); code != want || (s == nil) != (i > 0) {
			t.Errorf("%v: %v, %d; want %d", e, s, code, want)
		}
	}
}

// 12.1: a segment that was dropped, or that is only in entries that are not kept, needs no file.
func TestOpenNeedsNoFile(t *testing.T) {
	a, b := bytesOf(segOf(1, 0)), bytesOf(segOf(2, 0))
	l := []api.Entry{adding(a, 1), dropping(1, 1), viewing(2)}
	for _, more := range [][]byte{nil, logOf([]api.Entry{adding(b, 1)}), logOf([]api.Entry{adding(b, 2)})[1:]} {
		d, s, code := opened(t, map[string]string{"log": string(logOf(l)) + string(more), "s1": string(a), "s2": string(b)})
		if code != api.OK || !slices.Equal(s.Entries(), l) || !slices.Equal(d.Names(), []string{"log"}) {
			t.Fatal(code, d.Names())
		}
	}
}

// 12.1: of entries that Fold does not take, the longest beginning is kept, sure, and the file ends there.
func TestOpenFolds(t *testing.T) {
	a, b := bytesOf(segOf(1, 0)), bytesOf(segOf(2, 0))
	well := []api.Entry{viewing(1), adding(a, 1), ruling("seal 5", 2), adding(b, 2), viewing(4), dropping(1, 4), ruling("seal 6", 5)}
	for n := range len(well) + 1 {
		for _, bad := range []api.Entry{viewing(0), viewing(-1), adding(a, 5), dropping(1, 5), dropping(3, 5), viewing(1), ruling("seal 9", 0)} {
			l := append(slices.Clone(well[:n]), bad)
			if _, _, _, code := entry.Fold(l); code == api.OK || !entry.May(bad) {
				continue
			}
			for _, more := range [][]api.Entry{nil, {viewing(9)}, well, {bad, bad}} {
				d := disk.New(10000)
				d.Append("log", logOf(append(slices.Clone(l), more...)))
				d.Append("s1", a)
				d.Append("s2", b)
				s, code := Open(d)
				if code != api.OK || !slices.Equal(s.Entries(), well[:n]) || s.Sure() != n {
					t.Fatalf("%d and %v: %v, %d", n, bad, s, code)
				}
				d.Crash(nil)
				if got, _ := d.Read("log"); !bytes.Equal(got, logOf(well[:n])) {
					t.Fatalf("%d and %v: % .40X", n, bad, got)
				}
			}
		}
	}
}

// 12.1: a log that is torn, or spoilt, at any byte is read as far as it is right, and goes on from there.
func TestOpenTorn(t *testing.T) {
	l := []api.Entry{viewing(1), ruling("seal 5", 1), viewing(3), ruling("", 4)}
	b := logOf(l)
	for at := range len(b) + 1 {
		n := 0
		for n < len(l) && len(logOf(l[:n+1])) <= at {
			n++
		}
		files := []string{string(b[:at])}
		if at < len(b) {
			spoilt := slices.Clone(b)
			spoilt[at]++
			files = append(files, string(spoilt))
		}
		for _, text := range files {
			d, s, code := opened(t, map[string]string{"log": text})
			if code != api.OK || !slices.Equal(s.Entries(), l[:n]) || s.Sure() != n || d.Used() != len(logOf(l[:n])) {
				t.Fatalf("% .40X: %v, %d", text, s, code)
			}
			if s.Put(viewing(9)) != api.OK || s.Sync() != api.OK {
				t.Fatal(at)
			}
			if s, code = Open(d); code != api.OK || !slices.Equal(s.Entries(), append(slices.Clone(l[:n]), viewing(9))) {
				t.Fatalf("% .40X, and one more: %v, %d", text, s, code)
			}
		}
	}
}

// 12.1: what stands in the log and is not sure is sure behind Open, though no crash was ahead of it.
func TestOpenSyncs(t *testing.T) {
	x := newSite(t, 1000)
	took(t, x.put(viewing(1)), api.OK)
	took(t, x.put(viewing(2)), api.OK)
	x.reopen(api.OK)
	x.want.sure = 2
	x.check("Open")
	x.crash(0)
	if len(x.s.Entries()) != 2 {
		t.Fatal(x.s.Entries())
	}
}

// manifestFull: a site with one segment, 1, and MaxEntries entries in all.
func manifestFull(t *testing.T) *site {
	t.Helper()
	x := newSite(t, api.MaxDisk)
	took(t, x.install(bytesOf(segOf(1, 0)), 1), api.OK)
	for i := 1; i < api.MaxEntries; i++ {
		if x.want.l = append(x.want.l, viewing(i)); x.s.Put(viewing(i)) != api.OK {
			t.Fatal(i)
		}
	}
	x.check("many times Put")
	return x
}

// 12.2: a manifest has MaxEntries entries and no more, whatever their kind: more would not be read again.
func TestMaxEntries(t *testing.T) {
	x := manifestFull(t)
	took(t, x.put(viewing(3000)), api.ErrFull)
	took(t, x.put(ruling("", 3000)), api.ErrFull)
	took(t, x.put(adding(bytesOf(segOf(2, 0)), 3000)), api.ErrFull)
	took(t, x.put(dropping(1, 3000)), api.ErrFull)
	took(t, x.install(bytesOf(segOf(2, 0)), 3000), api.ErrFull)
	took(t, x.drop(1, 3000), api.ErrFull)
	took(t, x.put(viewing(1)), api.ErrView)
	took(t, x.put(api.Entry{}), api.ErrArg)
	took(t, x.install(bytesOf(segOf(1, 0)), 3000), api.ErrTwice)
	took(t, x.install(nil, 3000), api.ErrBytes)
	took(t, x.drop(2, 3000), api.ErrNone)
	x.sync()
	x.crash(0)
	x.d.Append("log", logOf([]api.Entry{viewing(3000)}))
	x.reopen(api.OK)
	x.check("Open of one more")
	took(t, x.cut(api.MaxEntries), api.OK)
	took(t, x.cut(api.MaxEntries-1), api.OK)
	took(t, x.drop(1, 3000), api.OK)
	took(t, x.install(bytesOf(segOf(2, 0)), 3000), api.ErrFull)
}

// 12.2: where the disk has no room, this is told, and nothing has changed; with a byte more there is.
func TestFull(t *testing.T) {
	b := bytesOf(segOf(3, 0))
	first, second := logOf([]api.Entry{adding(b, 1)}), logOf([]api.Entry{dropping(3, 1)})
	for room := range len(b) + len(first) + len(second) + 2 {
		x := newSite(t, room)
		want := api.OK
		if room < len(b)+len(first) {
			want = api.ErrFull
		}
		took(t, x.install(b, 1), want)
		if want == api.OK && room < len(b)+len(first)+len(second) {
			took(t, x.drop(3, 1), api.ErrFull)
		}
		x.crash(1000)
		x = newSite(t, room)
		if want = api.OK; room < 7 {
			want = api.ErrFull
		}
		took(t, x.put(viewing(1)), want)
		if x.crash(1000); len(x.s.Entries()) == 1 != (want == api.OK) {
			t.Fatal(room, x.s.Entries())
		}
	}
}

// 12.2: where the disk has too many files, this is told, and nothing has changed.
func TestMaxFiles(t *testing.T) {
	b := bytesOf(segOf(3, 0))
	for others := api.MaxFiles - 3; others <= api.MaxFiles; others++ {
		x := newSite(t, api.MaxDisk)
		for i := range others {
			x.lay(fmt.Sprintf("x%d", i), "x")
		}
		want := api.OK
		if others > api.MaxFiles-2 {
			want = api.ErrFull
		}
		took(t, x.install(b, 1), want)
		if want = api.OK; others == api.MaxFiles {
			want = api.ErrFull
		}
		took(t, x.put(viewing(1)), want)
	}
}

// 12.2: a file that has the segment's name goes ahead of its own, which is gone, too, where the entry finds no room.
func TestInstallOld(t *testing.T) {
	b := bytesOf(segOf(3, 0))
	for _, old := range []string{"", "x", string(b), strings.Repeat("x", len(b)), string(bytesOf(segOf(3, 50)))} {
		x := newSite(t, 1000)
		x.lay("s3", old)
		x.lay("s4", old)
		took(t, x.install(b, 1), api.OK)
		x.crash(1000)
		if !slices.Equal(x.d.Names(), []string{"log", "s3"}) {
			t.Fatal(x.d.Names())
		}
		x = newSite(t, max(len(b)+3, len(old)))
		x.lay("s3", old)
		took(t, x.install(b, 1), api.ErrFull)
		x = newSite(t, max(len(b)-1, len(old)))
		x.lay("s3", old)
		took(t, x.install(b, 1), api.ErrFull)
		if len(x.d.Names()) != 0 {
			t.Fatal(x.d.Names())
		}
		// With any error ahead of the disk's, it stays.
		x = newSite(t, 1000)
		x.lay("s3", old)
		took(t, x.install(b, -1), api.ErrArg)
		took(t, x.install(b[1:], 1), api.ErrBytes)
	}
}

// 12.2, T4: what Install lays is sure ahead of its entry; what Drop takes away, only behind its entry.
func TestSureFirst(t *testing.T) {
	x := newSite(t, 1000)
	took(t, x.install(bytesOf(segOf(3, 0)), 1), api.OK)
	took(t, x.install(bytesOf(segOf(4, 0)), 1), api.OK)
	x.d.Sync("log") // as if its bytes had come to the disk
	x.want.sure = 2
	x.crash(0)
	if len(x.s.Infos()) != 2 {
		t.Fatal(x.s.Infos())
	}
	took(t, x.put(viewing(2)), api.OK)
	took(t, x.drop(4, 2), api.OK)
	took(t, x.put(viewing(3)), api.OK)
	x.crash(0)
	if len(x.s.Entries()) != 4 {
		t.Fatal(x.s.Entries())
	}
	took(t, x.put(viewing(3)), api.OK)
	took(t, x.put(viewing(4)), api.OK)
	took(t, x.cut(5), api.OK)
	x.crash(0)
	if len(x.s.Entries()) != 5 {
		t.Fatal(x.s.Entries())
	}
}

// history: entries of all kinds, with segments that come and go.
func history(t *testing.T) *site {
	t.Helper()
	x := newSite(t, 10000)
	took(t, x.put(viewing(1)), api.OK)
	took(t, x.install(bytesOf(segOf(10, 0)), 1), api.OK)
	took(t, x.install(bytesOf(segOf(2, 10)), 1), api.OK)
	took(t, x.put(ruling("seal 5", 1)), api.OK)
	took(t, x.drop(10, 1), api.OK)
	took(t, x.install(bytesOf(aggsOf(3)), 2), api.OK)
	took(t, x.put(viewing(2)), api.OK)
	took(t, x.drop(2, 2), api.OK)
	took(t, x.drop(3, 2), api.OK)
	took(t, x.install(bytesOf(segOf(1, 0)), 3), api.OK)
	took(t, x.put(ruling("", 3)), api.OK)
	return x
}

// 12.2: each Cut, with and without the files that have gone.
func TestCut(t *testing.T) {
	none := map[int]int{}
	for _, n := range []int{2, 3, 4, 5, 6, 7, 8} { // 10, 2 or 3 would be there again
		none[n] = api.ErrNone
	}
	for n := range 12 {
		x := history(t)
		took(t, x.cut(n), none[n])
		x.crash(0)
		x = history(t)
		x.lay("s10", string(bytesOf(segOf(10, 0))))
		x.lay("s2", string(bytesOf(segOf(2, 10))))
		x.lay("s3", string(bytesOf(aggsOf(3))))
		x.lay("s5", "x")
		x.lay("xs", "x")
		took(t, x.cut(n), api.OK) // and of the other files all stay
		x.crash(0)
	}
	x := history(t)
	x.lay("s2", string(bytesOf(segOf(2, 10))))
	took(t, x.cut(7), api.ErrNone)
	took(t, x.cut(4), api.ErrNone)
	took(t, x.cut(8), api.ErrNone) // 3
	x.lay("s3", string(bytesOf(aggsOf(3))))
	took(t, x.cut(8), api.OK)
}

// 12.2, 12.3: a disk that another hand changed: all calls end, and tell what they find.
func TestOtherHands(t *testing.T) {
	x := history(t)
	x.d.Remove("s1")
	if got, code := x.s.Seg(1); code != api.ErrNone || !segment.Same(got, api.Seg{}) {
		t.Error(got, code)
	}
	for _, b := range [][]byte{nil, []byte("x"), bytesOf(segOf(1, 1)), bytesOf(segOf(2, 0))} {
		x.d.Remove("s1")
		x.d.Append("s1", b)
		if got, code := x.s.Seg(1); code != api.ErrBytes || !segment.Same(got, api.Seg{}) {
			t.Errorf("% .40X: %v, %d", b, got, code)
		}
	}
	x.d.Remove("s1")
	if code := x.s.Cut(10); code != api.OK { // it is there, so that it is not there again
		t.Error(code)
	}
	if code := x.s.Drop(1, 3); code != api.OK {
		t.Error(code)
	}
	x = history(t)
	x.d.Remove("log")
	if x.s.Sync() != api.ErrNone || x.s.Cut(10) != api.ErrNone || x.s.Sure() != 9 || len(x.s.Entries()) != 11 || x.s.Cut(12) != api.ErrRange {
		t.Error(x.s.Sure(), x.s.Entries())
	}
	x.d.Append("log", []byte("x"))
	if x.s.Cut(10) != api.ErrRange || len(x.s.Entries()) != 11 || !slices.Equal(x.d.Names(), []string{"log", "s1"}) {
		t.Error(x.s.Entries(), x.d.Names())
	}
	x.d.Remove("log")
	if x.s.Cut(0) != api.OK || len(x.s.Entries()) != 0 || x.s.Sure() != 0 || len(x.d.Names()) != 0 {
		t.Error(x.s.Entries(), x.d.Names())
	}
}

// steps: calls, on few Ids and views, of which rows are made.
func steps() []func(x *site) {
	return []func(x *site){
		func(x *site) { x.put(viewing(1)) },
		func(x *site) { x.put(ruling("seal 5", 2)) },
		func(x *site) { x.put(dropping(1, 2)) },
		func(x *site) { x.install(bytesOf(segOf(1, 0)), 1) },
		func(x *site) { x.install(bytesOf(segOf(1, 10)), 2) },
		func(x *site) { x.install(bytesOf(aggsOf(2)), 1) },
		func(x *site) { x.drop(1, 1) },
		func(x *site) { x.drop(2, 2) },
		func(x *site) { x.cut(0) },
		func(x *site) { x.cut(1) },
		func(x *site) { x.cut(len(x.want.l) - 1) },
		func(x *site) { x.sync() },
		func(x *site) { x.crash(len(logOf(x.want.l[x.want.sure:])) / 2) },
		func(x *site) { x.lay("s2", string(bytesOf(aggsOf(2)))) },
	}
}

// 12.2, 12.3: all rows of four calls.
func TestRows(t *testing.T) {
	all := steps()
	n := len(all)
	for row := range n * n * n * n {
		x := newSite(t, 200)
		for i := row; ; i /= n {
			all[i%n](x)
			if i < n {
				break
			}
		}
	}
}

// 12.4, T4: behind a crash there is a beginning of what was there, with all that was sure; twice is as once.
func TestCrash(t *testing.T) {
	all := steps()
	n := len(all)
	for row := range n * n * n {
		for part := range 6 {
			x := newSite(t, 500)
			took(t, x.install(bytesOf(segOf(7, 0)), 1), api.OK)
			for i := row; ; i /= n {
				all[i%n](x)
				if i < n {
					break
				}
			}
			was, sure, rest := x.s.Entries(), x.s.Sure(), len(logOf(x.want.l[x.want.sure:]))
			keep := []int{math.MinInt, 0, rest / 2, rest - 1, rest, math.MaxInt}[part]
			x.crash(keep)
			is := x.s.Entries()
			if len(is) < sure || len(is) > len(was) || !slices.Equal(is, was[:len(is)]) || keep <= 0 && len(is) != sure || keep >= rest && len(is) != len(was) {
				t.Fatalf("row %d, keep %d of %d: %v; was %v, %d sure", row, keep, rest, is, was, sure)
			}
			for _, again := range []int{0, math.MaxInt} {
				if x.crash(again); !slices.Equal(x.s.Entries(), is) {
					t.Fatalf("row %d, keep %d, again %d: %v; was %v", row, keep, again, x.s.Entries(), is)
				}
			}
		}
	}
}

// 12.4: at each byte of what is not sure.
func TestCrashEach(t *testing.T) {
	build := func() *site {
		x := newSite(t, 1000)
		x.install(bytesOf(segOf(1, 0)), 1)
		x.sync()
		x.install(bytesOf(segOf(2, 10)), 1)
		x.put(ruling("seal 3", 1))
		x.install(bytesOf(aggsOf(3)), 2)
		x.put(viewing(2))
		return x
	}
	rest := len(logOf(build().want.l[1:]))
	for keep := range rest + 2 {
		x := build()
		was := x.s.Entries()
		x.crash(keep)
		n := len(x.s.Entries())
		if n < 1 || !slices.Equal(x.s.Entries(), was[:n]) || keep < rest && n == 5 || keep >= rest && n != 5 {
			t.Fatal(keep, n)
		}
		x.crash(keep)
		if len(x.s.Entries()) != n {
			t.Fatal(keep, n)
		}
	}
}

// 12.1 to 12.4: long rows, by chance that is the same each time.
func TestLong(t *testing.T) {
	for seed := range int64(60) {
		r := rand.New(rand.NewSource(seed))
		x := newSite(t, []int{300, 1500, 10000}[seed%3])
		view := 0
		for range 150 {
			id := 1 + r.Intn(25)
			if r.Intn(6) == 0 {
				view++
			}
			switch r.Intn(20) {
			case 0, 1:
				x.put(viewing(view))
			case 2:
				x.put(ruling([]string{"seal 5", "keep raw 9\nspan 4", "", "seal 0"}[r.Intn(4)], view))
			case 3, 4, 5, 6, 7, 8:
				x.install(bytesOf(segOf(id, int64(r.Intn(3)))), view)
			case 9:
				x.install(bytesOf(aggsOf(id)), view-r.Intn(2))
			case 10, 11, 12:
				x.drop(id, view)
			case 13:
				x.cut(r.Intn(len(x.want.l) + 2))
			case 14:
				x.cut(len(x.want.l) - r.Intn(3))
			case 15:
				x.sync()
			case 16:
				x.crash(r.Intn(len(logOf(x.want.l[x.want.sure:])) + 1))
			case 17, 18:
				x.layBack(id)
			case 19:
				took(t, x.want.open(math.MaxInt), api.OK)
				x.reopen(api.OK)
				x.check("Open")
			}
		}
	}
}
