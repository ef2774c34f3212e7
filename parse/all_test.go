package parse_test

import (
	"math/rand"
	"reflect"
	"slices"
	"strconv"
	"strings"
	"testing"

	"lockorder/api"
	"lockorder/parse"
	"lockorder/token"
)

// compareBlock tests Block against the reference and returns the index and the error.
func compareBlock(t *testing.T, l []api.Token, at int) (int, api.Errno) {
	t.Helper()
	got, n, errno := parse.Block(l, at)
	wantN, wantErrno := referenceEnd(l, at, "Block")
	if n != wantN || errno != wantErrno {
		t.Fatalf("Block(%s, %d) = %d, %d; want %d, %d", texts(l), at, n, errno, wantN, wantErrno)
	}
	var want []api.Stmt
	if errno == api.OK {
		want = referenceStmts(l[at+1 : n-1])
	}
	if !reflect.DeepEqual(plain(got), want) {
		t.Fatalf("Block(%s, %d) = %v; want %v", texts(l), at, got, want)
	}
	return n, errno
}

// compareProgram tests Program against the reference, and returns the index of the token with the error, or that of the end, and the error.
func compareProgram(t *testing.T, src string) (int, api.Errno) {
	t.Helper()
	l := lex(src)
	got, offset, errno := parse.Program([]byte(src))
	n, wantErrno := referenceEnd(l, 0, "Program")
	if offset != l[n].Pos || errno != wantErrno {
		t.Fatalf("Program(%q) = %d, %d; want %d, %d", src, offset, errno, l[n].Pos, wantErrno)
	}
	var want api.Program
	if errno == api.OK {
		want = referenceProgram(l[:n])
	}
	if !reflect.DeepEqual(plain(got), want) {
		t.Fatalf("Program(%q) = %v; want %v", src, got, want)
	}
	return n, errno
}

// words has every word, and all signs but those of expressions that begin no operand.
const words = "var mutex rmutex func lock unlock go if else while return ( ) { } [ ] , ; = - a 7"

func TestAllShortPrograms(t *testing.T) { // P3.1, P3.3: every token after everything that may begin a program
	alphabet := strings.Fields(words + " 0")
	var grow func(l []string)
	grow = func(l []string) {
		n, errno := compareProgram(t, strings.Join(l, " "))
		// After a token that does not fit, nothing changes the result.
		if len(l) == 12 || errno != api.OK && n < len(l) {
			return
		}
		for _, w := range alphabet {
			grow(append(slices.Clip(l), w))
		}
	}
	grow(nil)
}

func TestAllShortBlocks(t *testing.T) { // P3.1, P3.2: every token after everything that may begin a block
	alphabet := lex(words)
	alphabet = alphabet[:len(alphabet)-1]
	var grow func(l []api.Token)
	grow = func(l []api.Token) {
		n, errno := compareBlock(t, append(slices.Clip(l), end), 0)
		if len(l) == 9 || errno == api.OK || n < len(l) {
			return
		}
		for _, w := range alphabet {
			grow(append(slices.Clip(l), w))
		}
	}
	grow(nil)
}

// write returns the tokens of something that a symbol may stand for. As long as there is something left, longer choices are possible.
func write(r *rand.Rand, symbol string, left *int) []string {
	*left--
	pick := func(l ...string) []string { return strings.Fields(l[r.Intn(len(l))]) }
	switch symbol {
	case "Name":
		return pick("a", "b", "x1", "_", "iff", "abcdefghijklmnop")
	case "Number":
		return pick("0", "1", "07", "9223372036854775807")
	case "Elements":
		return []string{strconv.Itoa(1 + r.Intn(api.MaxElements))}
	case "Expr":
		return pick("a", "1", "x1 + 1", "a - ( b - 1 ) * 2", "- a < b && ! c", "( ( a ) )", "a == - 1 || b % 2 != 0")
	}
	rows, ok := grammar[symbol]
	if !ok {
		return []string{symbol}
	}
	row := rows[0]
	if *left > 0 {
		row = rows[r.Intn(len(rows))]
		if rows[0] == "" && r.Intn(3) > 0 {
			row = rows[1]
		}
	}
	var out []string
	for _, s := range strings.Fields(row) {
		out = append(out, write(r, s, left)...)
	}
	return out
}

// damage changes some of the tokens.
func damage(r *rand.Rand, l []string) []string {
	alphabet := strings.Fields(words + " 0 65 + * ! == a a ; ;")
	l = slices.Clone(l)
	for range r.Intn(3) {
		at := r.Intn(len(l) + 1)
		to := min(at+r.Intn(2), len(l))
		l = slices.Replace(l, at, to, alphabet[r.Intn(len(alphabet))])
		if at := r.Intn(len(l)); r.Intn(3) == 0 {
			l = slices.Delete(l, at, at+1)
		}
	}
	return l
}

func TestRandomPrograms(t *testing.T) { // P3.1, P3.2, P3.3
	r := rand.New(rand.NewSource(1))
	right := 0
	for range 20000 {
		left := r.Intn(400)
		l := damage(r, write(r, "Program", &left))
		if len(l) > api.MaxTokens {
			continue
		}
		src := strings.Join(l, " ")
		if _, errno := compareProgram(t, src); errno == api.OK {
			right++
		}
		tokens := lex(src)
		for at, x := range tokens {
			if x.Text == "{" || r.Intn(20) == 0 {
				compareBlock(t, tokens, at)
			}
		}
	}
	if right < 5000 {
		t.Errorf("only %d programs are right", right)
	}
}

// separators are what may stand between any two tokens.
var separators = []string{" ", "\n", "\t", "\r\n", "  ", "// c\n", " // var x; }\n", "//\n//\n", "\n//$ \xff\x00\n\t"}

// respace writes tokens with separators by chance, and with none where none is needed.
func respace(r *rand.Rand, l []string) string {
	s := ""
	between := func() string {
		if strings.HasSuffix(s, "/") { // else the sign would belong to a comment
			return " "
		}
		return separators[r.Intn(len(separators))]
	}
	for i, x := range l {
		if i > 0 && r.Intn(2) == 0 && (strings.ContainsAny(x, "(){}[],;") || strings.ContainsAny(l[i-1], "(){}[],;")) {
			s += x
		} else {
			s += between() + x
		}
	}
	return s + between() + "// the end, without a line feed"[:r.Intn(2)*31]
}

func TestSeparators(t *testing.T) { // P3.4
	r := rand.New(rand.NewSource(2))
	for range 5000 {
		left := r.Intn(200)
		l := damage(r, write(r, "Program", &left))
		src, other := strings.Join(l, " "), respace(r, l)
		if len(l) > api.MaxTokens {
			continue
		}
		p, offset, errno := parse.Program([]byte(src))
		q, otherOffset, otherErrno := parse.Program([]byte(other))
		if errno != otherErrno || !reflect.DeepEqual(plain(p), plain(q)) {
			t.Fatalf("Program(%q) = %v, %d; Program(%q) = %v, %d", src, p, errno, other, q, otherErrno)
		}
		// The errors occur at the same token.
		at := slices.IndexFunc(lex(src), func(x api.Token) bool { return x.Pos == offset })
		if got := lex(other)[at].Pos; got != otherOffset {
			t.Fatalf("Program(%q) = %d, %d; Program(%q) = %d; want %d", src, offset, errno, other, otherOffset, got)
		}
	}
}

func TestMostTokens(t *testing.T) { // P3.3, P3.2: as many tokens as there may be, and more of them for Block
	const around = 7 // func f ( ) { return and }
	src := "func f() { return " + strings.Repeat("; return", (api.MaxTokens-around-1)/2) + ";}"
	if n := len(lex(src)) - 1; n != api.MaxTokens {
		t.Fatalf("the text has %d tokens", n)
	}
	compareProgram(t, src)
	many := append(slices.Repeat(lex("f(1); return;")[:7], 50000), lex("}")...)
	many = append(lex("{")[:1], many...)
	if l, n, errno := parse.Block(many, 0); len(l) != 100000 || n != len(many)-1 || errno != api.OK {
		t.Errorf("Block = %d statements, %d, %d", len(l), n, errno)
	}
	opens := append(slices.Repeat(lex("{ if x")[:3], 100000), end)
	expectIndex(t, opens, 0, 3*api.MaxNesting, api.ErrLimit)
}

// scribble overwrites everything that v refers to.
func scribble(v reflect.Value) {
	switch v.Kind() {
	case reflect.Struct:
		for i := range v.NumField() {
			scribble(v.Field(i))
		}
	case reflect.Slice:
		v = v.Slice(0, v.Cap())
		for i := range v.Len() {
			scribble(v.Index(i))
			v.Index(i).SetZero()
		}
	}
}

const sample = "var x = 1; mutex a[3]; func f(n, mutex m) { lock m; if n { f(n, mutex a[x + 1]); } else { x = 2; } unlock m; } func main() { go f(-x, mutex a[0]); while x { var y = !x; return; } }"

func TestMemory(t *testing.T) { // R2, R3
	src := []byte(sample)
	l := lex(sample)
	want := referenceProgram(l[:len(l)-1])
	first, _, _ := parse.Program(src)
	second, _, _ := parse.Program(src)
	if string(src) != sample {
		t.Error("Program changes the text")
	}
	clear(src)
	scribble(reflect.ValueOf(&first).Elem())
	if !reflect.DeepEqual(plain(second), want) {
		t.Error("programs share memory", second)
	}
	at := slices.IndexFunc(l, func(x api.Token) bool { return x.Text == "{" })
	one, _, _ := parse.Block(l, at)
	two, _, _ := parse.Block(l, at)
	if !slices.Equal(l, lex(sample)) {
		t.Error("Block changes the tokens")
	}
	clear(l)
	scribble(reflect.ValueOf(&one).Elem())
	if !reflect.DeepEqual(plain(two), want.Funcs[0].Body) {
		t.Error("blocks share memory", two)
	}
}

// parts adds the addresses of the items of all slices in v.
func parts(v reflect.Value, seen map[uintptr]int) {
	switch v.Kind() {
	case reflect.Struct:
		for i := range v.NumField() {
			parts(v.Field(i), seen)
		}
	case reflect.Slice:
		if v.Cap() > 0 {
			seen[v.Pointer()]++
		}
		for i := range v.Len() {
			parts(v.Index(i), seen)
		}
	}
}

func TestOwnMemory(t *testing.T) { // R2: no two slices of a result are the same memory
	p, _, _ := parse.Program([]byte(sample + "func g(a, b) { g(1, 2); g(3, 4); if a { return; } else { return; } }"))
	seen := map[uintptr]int{}
	parts(reflect.ValueOf(p), seen)
	for _, n := range seen {
		if n > 1 {
			t.Error("memory is shared")
		}
	}
	if len(seen) < 20 {
		t.Error("slices:", len(seen))
	}
}

func FuzzProgram(f *testing.F) { // P3.1 to P3.4
	f.Add(sample, int64(1))
	f.Add("rmutex b; mutex c[65]; func f(mutex a, b) { if a { } else if b { } }", int64(2))
	f.Fuzz(func(t *testing.T, s string, seed int64) {
		l, offset, errno := token.Lex([]byte(s))
		if errno != api.OK {
			expectOffset(t, s, offset, errno)
			return
		}
		n, errno := compareProgram(t, s)
		for at := range l {
			compareBlock(t, l, at)
		}
		other := respace(rand.New(rand.NewSource(seed)), strings.Fields(token.Text(l)))
		if len(other) > api.MaxBytes {
			return
		}
		if back, errno2 := compareProgram(t, other); back != n || errno2 != errno {
			t.Fatalf("Program(%q) and Program(%q) differ", s, other)
		}
	})
}
