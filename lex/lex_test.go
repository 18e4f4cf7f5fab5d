package lex_test

import (
	"math/rand"
	"slices"
	"strconv"
	"strings"
	"testing"
	"unsafe"

	"eddywheel/api"
	"eddywheel/lex"
)

// Written out, so that a limit that moves is seen.
const (
	maxInt   = 1 << 40
	mostText = 4000
	mostName = 32
	digits   = "0123456789"
	marks    = "!$%&*+-/:<=>?^_~"
	chars    = "abcdefghijklmnopqrstuvwxyzABCDEFGHIJKLMNOPQRSTUVWXYZ" + digits + marks
)

// A token is made as the document tells it.

func open(at int) api.Token { return api.Token{Kind: api.TokOpen, At: at} }

func closing(at int) api.Token { return api.Token{Kind: api.TokClose, At: at} }

func quote(at int) api.Token { return api.Token{Kind: api.TokQuote, At: at} }

func yes(at int) api.Token { return api.Token{Kind: api.TokBool, At: at, N: 1} }

func no(at int) api.Token { return api.Token{Kind: api.TokBool, At: at} }

func number(at, n int) api.Token { return api.Token{Kind: api.TokInt, At: at, N: n} }

func name(at int, s string) api.Token { return api.Token{Kind: api.TokName, At: at, S: s} }

// has tells whether a text is these tokens, and whether it is so again.
func has(t *testing.T, s string, want ...api.Token) {
	t.Helper()
	for range 2 {
		l, at, e := lex.Lex(s)
		if !slices.Equal(l, want) || at != 0 || e != api.OK {
			t.Errorf("%q: %v, %d, %d, not %v", s, l, at, e, want)
		}
	}
}

func fails(t *testing.T, s string, wantAt int, want api.Errno) {
	t.Helper()
	for range 2 {
		if l, at, e := lex.Lex(s); len(l) != 0 || at != wantAt || e != want {
			t.Errorf("%q: %v, %d, %d, not %d, %d", s, l, at, e, wantAt, want)
		}
	}
}

func TestP5_1_TheExample(t *testing.T) {
	has(t, "(+ -2 x)", open(0), name(1, "+"), number(3, -2), name(6, "x"), closing(7))
}

func TestP5_1_TextsOfNothing(t *testing.T) {
	for _, s := range []string{"", " ", "\t", "\n", " \t\n\n\t ", ";", "; a ) #", ";\n", "\n;\n;;\n \t;;;", strings.Repeat(" ", mostText), ";" + strings.Repeat("#", mostText-1)} {
		has(t, s)
	}
}

func TestP5_1_TheLengthsThatMayBe(t *testing.T) {
	space := strings.Repeat(" ", mostText-1)
	has(t, space+"a", name(mostText-1, "a"))
	has(t, "a"+space, name(0, "a"))
	has(t, space[1:]+"a\n", name(mostText-2, "a"))
	has(t, ";"+strings.Repeat("é", (mostText-2)/2)+"\n")
	fails(t, space+"#", mostText-1, api.ErrChar)
	fails(t, space[1:]+"é", mostText-2, api.ErrChar)
	var want []api.Token
	for at := range mostText {
		want = append(want, quote(at))
	}
	has(t, strings.Repeat("'", mostText), want...)
}

func TestP5_1_TheLengthsThatMayNotBe(t *testing.T) {
	for _, count := range []int{mostText + 1, mostText + 2, 2 * mostText, 1<<16 - 1, 1 << 16, 1<<16 + 1} {
		for _, c := range []string{" ", "a", "1", "(", "#", ";", "\x00", "\xff"} {
			fails(t, strings.Repeat(c, count), 0, api.ErrLong)
		}
	}
	fails(t, strings.Repeat("é", mostText/2)+"a", 0, api.ErrLong)
	fails(t, strings.Repeat("a", mostName+1)+strings.Repeat(" ", mostText), 0, api.ErrLong)
}

// The length is held ahead of everything else that is wrong.
func TestP5_1_ALongTextIsTheFirstError(t *testing.T) {
	space := strings.Repeat(" ", mostText)
	for _, s := range []string{"#" + space, " # " + space, space + "#", " 99999999999999 " + space, space + "a", "\xff" + space} {
		fails(t, s, 0, api.ErrLong)
	}
}

func TestP5_2_EveryByteAlone(t *testing.T) {
	for b := range 256 {
		s := string([]byte{byte(b)})
		switch {
		case s == "(":
			has(t, s, open(0))
		case s == ")":
			has(t, s, closing(0))
		case s == "'":
			has(t, s, quote(0))
		case strings.Contains(" \t\n;", s):
			has(t, s)
		case strings.Contains(digits, s):
			has(t, s, number(0, b-'0'))
		case strings.Contains(chars, s):
			has(t, s, name(0, s))
		default:
			fails(t, s, 0, api.ErrChar)
		}
	}
}

func TestP5_2_EveryByteBehindAName(t *testing.T) {
	for b := range 256 {
		s := string([]byte{byte(b)})
		switch {
		case s == "(":
			has(t, "a"+s+"b", name(0, "a"), open(1), name(2, "b"))
		case s == ")":
			has(t, "a"+s+"b", name(0, "a"), closing(1), name(2, "b"))
		case s == "'":
			has(t, "a"+s+"b", name(0, "a"), quote(1), name(2, "b"))
		case strings.Contains(" \t\n", s):
			has(t, "a"+s+"b", name(0, "a"), name(2, "b"))
		case s == ";":
			has(t, "a"+s+"b", name(0, "a"))
		case strings.Contains(chars, s):
			has(t, "a"+s+"b", name(0, "a"+s+"b"))
		default:
			fails(t, "a"+s+"b", 1, api.ErrChar)
		}
	}
}

func TestP5_2_AllNameCharacters(t *testing.T) {
	var want []api.Token
	for at := 0; at < len(chars); at += mostName {
		want = append(want, name(at+at/mostName, chars[at:min(at+mostName, len(chars))]))
	}
	text := ""
	for _, x := range want {
		text += x.S + "\n"
	}
	has(t, text, want...)
}

func TestP5_2_Blanks(t *testing.T) {
	has(t, "a b\tc\nd", name(0, "a"), name(2, "b"), name(4, "c"), name(6, "d"))
	has(t, " \n\t a \t\n b \n", name(4, "a"), name(9, "b"))
	for _, s := range []string{"\r", "\v", "\f", "\x00", "\u00a0", "\u2028", "\u0085", "\ufeff"} {
		fails(t, "a"+s+"b", 1, api.ErrChar)
		fails(t, " "+s, 1, api.ErrChar)
		fails(t, s, 0, api.ErrChar)
	}
}

func TestP5_2_Comments(t *testing.T) {
	has(t, "a;b", name(0, "a"))
	has(t, "a;b\n", name(0, "a"))
	has(t, "a;b\nc", name(0, "a"), name(4, "c"))
	has(t, ";\na", name(2, "a"))
	has(t, ";\n;\na", name(4, "a"))
	has(t, ";a;b\nc;d;\ne", name(5, "c"), name(10, "e"))
	has(t, "(;)\n)", open(0), closing(4))
	has(t, "';a\nb", quote(0), name(4, "b"))
	has(t, "#t;t\n#f;", yes(0), no(5))
	has(t, "1;2\n3", number(0, 1), number(4, 3))
	has(t, "; # \xff \xe2\x82 \x00 \r ; \"\n'", quote(17))
	has(t, ";\xe2\na", name(3, "a"))
	fails(t, ";\n#", 2, api.ErrChar)
	fails(t, "a ; b\n\r", 6, api.ErrChar)
	has(t, "; a \r b")
}

func TestP5_2_Parentheses(t *testing.T) {
	has(t, "()", open(0), closing(1))
	has(t, ")(", closing(0), open(1))
	has(t, "'()", quote(0), open(1), closing(2))
	has(t, "''a'", quote(0), quote(1), name(2, "a"), quote(3))
	has(t, "a'b(c)d", name(0, "a"), quote(1), name(2, "b"), open(3), name(4, "c"), closing(5), name(6, "d"))
	has(t, "(((", open(0), open(1), open(2))
	has(t, "1(2)-3", number(0, 1), open(1), number(2, 2), closing(3), number(4, -3))
	for _, s := range []string{"[", "]", "{", "}", "\"", "`", ",", "|", "\\", "@", "."} {
		fails(t, s, 0, api.ErrChar)
		fails(t, "(a "+s+" b)", 3, api.ErrChar)
	}
}

func TestP5_2_Booleans(t *testing.T) {
	has(t, "#t", yes(0))
	has(t, "#f", no(0))
	has(t, "#t #f", yes(0), no(3))
	has(t, "#t#f#t", yes(0), no(2), yes(4))
	has(t, "(#t)'#f;", open(0), yes(1), closing(3), quote(4), no(5))
	has(t, "#f(", no(0), open(2))
	has(t, "#t'a", yes(0), quote(2), name(3, "a"))
	has(t, "#t\n", yes(0))
	has(t, "a#t", name(0, "a"), yes(1))
	has(t, "1#f", number(0, 1), no(1))
}

func TestP5_2_EveryByteBehindABoolean(t *testing.T) {
	for b := range 256 {
		s := string([]byte{byte(b)})
		for _, x := range []api.Token{no(3), yes(3)} {
			text := "  " + []string{" #f", " #t"}[x.N] + s
			switch {
			case s == "(":
				has(t, text, x, open(5))
			case s == ")":
				has(t, text, x, closing(5))
			case s == "'":
				has(t, text, x, quote(5))
			case strings.Contains(" \t\n;", s):
				has(t, text, x)
			case strings.Contains(chars, s):
				fails(t, text, 3, api.ErrChar)
			default:
				fails(t, text, 5, api.ErrChar)
			}
		}
	}
}

func TestP5_2_EveryByteBehindACross(t *testing.T) {
	for b := range 256 {
		if b == 't' || b == 'f' {
			continue
		}
		fails(t, "#"+string([]byte{byte(b)}), 0, api.ErrChar)
		fails(t, "a #"+string([]byte{byte(b)})+" b", 2, api.ErrChar)
	}
	for _, s := range []string{"#", "##", "##t", "# t", "#;\nt", "#(t", "#'t", "#T", "#F", "#true", "#false", "#tt", "#tf", "#t1", "#f-", "#ft", "#t?"} {
		fails(t, s, 0, api.ErrChar)
		fails(t, "(a b #t '"+s, 9, api.ErrChar)
	}
	fails(t, "#t#", 2, api.ErrChar)
	fails(t, "a#", 1, api.ErrChar)
	fails(t, "a#b", 1, api.ErrChar)
}

func TestP5_2_Numbers(t *testing.T) {
	for _, x := range []struct {
		s string
		n int
	}{{"0", 0}, {"-0", 0}, {"00", 0}, {"-000000000000", 0}, {"0000000000000", 0}, {"1", 1}, {"-1", -1}, {"9", 9}, {"10", 10}, {"-10", -10}, {"0010", 10}, {"-0010", -10}, {"08", 8}, {"-09", -9}, {"1234567890", 1234567890}, {"-1234567890", -1234567890}, {"0000000000007", 7}, {"-000000000007", -7}, {"2147483647", 1<<31 - 1}, {"2147483648", 1 << 31}, {"-2147483649", -1<<31 - 1}, {"4294967296", 1 << 32}, {"999999999999", 999999999999}, {"-999999999999", -999999999999}, {"0999999999999", 999999999999}, {"1000000000000", 1000000000000}, {"1099511627774", maxInt - 2}, {"1099511627775", maxInt - 1}} {
		has(t, x.s, number(0, x.n))
		has(t, " ("+x.s+")", open(1), number(2, x.n), closing(2+len(x.s)))
	}
}

// A number below 0 may have 12 digits, as it has 13 characters then.
func TestP5_2_NumbersThatAreTooGreat(t *testing.T) {
	for _, s := range []string{"1099511627776", "1099511627777", "1100000000000", "2000000000000", "9999999999999", "-1099511627774", "-1099511627775", "-1099511627776", "-1099511627777", "-1000000000000", "-9999999999999", "00000000000000", "-0000000000000", "00000000000001", "-0000000000001", "01099511627775", "18446744073709551616", "18446744073709551617", "9223372036854775808", "-9223372036854775808", "340282366920938463463374607431768211457", strings.Repeat("0", mostName), strings.Repeat("1", mostName+1), "-" + strings.Repeat("0", mostName), strings.Repeat("9", mostText-8)} {
		fails(t, s, 0, api.ErrNumber)
		fails(t, "a\n;b\n'"+s+" #", 6, api.ErrNumber)
	}
}

func TestP5_2_NumbersOfEveryLength(t *testing.T) {
	for count := 1; count <= 40; count++ {
		for _, s := range []string{strings.Repeat("1", count), "-" + strings.Repeat("1", count), strings.Repeat("0", count), "-" + strings.Repeat("0", count)} {
			n, err := strconv.ParseInt(s, 10, 64)
			if len(s) <= 13 && err == nil && -maxInt < n && n < maxInt {
				has(t, s, number(0, int(n)))
			} else {
				fails(t, s, 0, api.ErrNumber)
			}
		}
	}
}

func TestP5_2_WordsThatAreNearlyNumbers(t *testing.T) {
	for _, s := range []string{"-", "--", "--1", "-1-", "1-", "1-1", "-1-1", "+", "+1", "+-1", "-+1", "1+", "1a", "a1", "-a", "-1a", "-a1", "0x10", "1e3", "1_000", "1/2", "1:", "-:", "1!", "1~", "99999999999999x", "x99999999999999", "1099511627776-", "--1099511627776", "+1099511627776", "1" + strings.Repeat("0", mostName-2) + "a"} {
		has(t, s, name(0, s))
		has(t, "\t'"+s+" ", quote(1), name(2, s))
	}
	fails(t, "1.5", 1, api.ErrChar)
	fails(t, "1,000", 1, api.ErrChar)
	fails(t, "١", 0, api.ErrChar)
	fails(t, "1٢", 1, api.ErrChar)
}

func TestP5_2_NamesOfEveryLength(t *testing.T) {
	for count := 1; count <= 70; count++ {
		for _, s := range []string{strings.Repeat("x", count), strings.Repeat("-", count), strings.Repeat("1", count-1) + "a", "a" + strings.Repeat("1", count-1), strings.Repeat("~", count)} {
			if count <= mostName {
				has(t, s, name(0, s))
				has(t, "("+s+"(", open(0), name(1, s), open(1+count))
			} else {
				fails(t, s, 0, api.ErrLong)
				fails(t, "\n "+s+")", 2, api.ErrLong)
			}
		}
	}
	fails(t, strings.Repeat("a", mostText), 0, api.ErrLong)
	fails(t, strings.Repeat("é", mostName/2), 0, api.ErrChar)
}

func TestP5_2_OrdinaryNames(t *testing.T) {
	has(t, "set! null? call/cc a->b <= A ?x:y",
		name(0, "set!"), name(5, "null?"), name(11, "call/cc"), name(19, "a->b"), name(24, "<="), name(27, "A"), name(29, "?x:y"))
	has(t, "aa Aa aA", name(0, "aa"), name(3, "Aa"), name(6, "aA"))
}

func TestP5_2_BytesThatAreNoText(t *testing.T) {
	for _, s := range []string{"\x80", "\xbf", "\xc0", "\xc3", "\xe2\x82", "\xf0\x9f\x98", "\xff", "\xed\xa0\x80", "\xf4\x90\x80\x80", "\ufffd", "\x7f", "\x00", "é", "λ", "€", "😀", "ｋ", "Å", "\u0131"} {
		fails(t, s, 0, api.ErrChar)
		fails(t, "(a"+s, 2, api.ErrChar)
		fails(t, "(a "+s+" b)", 3, api.ErrChar)
		fails(t, "12"+s+"3", 2, api.ErrChar)
		fails(t, "#t"+s, 2, api.ErrChar)
		fails(t, "'"+s, 1, api.ErrChar)
		fails(t, ";"+s+"\n"+s, 2+len(s), api.ErrChar)
		has(t, "a;"+s+"\nb", name(0, "a"), name(3+len(s), "b"))
	}
}

func TestP5_2_TheFirstErrorIsTold(t *testing.T) {
	long, great := strings.Repeat("x", mostName+1), "1099511627776"
	has(t, "(a b)", open(0), name(1, "a"), name(3, "b"), closing(4))
	fails(t, "# "+long+" "+great, 0, api.ErrChar)
	fails(t, "a "+long+" # "+great, 2, api.ErrLong)
	fails(t, "a "+great+" # "+long, 2, api.ErrNumber)
	fails(t, long+"#", 0, api.ErrLong)
	fails(t, long+"\xff", 0, api.ErrLong)
	fails(t, great+"#", 0, api.ErrNumber)
	fails(t, great+".5", 0, api.ErrNumber)
	fails(t, "x.y#", 1, api.ErrChar)
	fails(t, ".#", 0, api.ErrChar)
	fails(t, "#t1 .", 0, api.ErrChar)
	fails(t, ")#)", 1, api.ErrChar)
	fails(t, "; #\n"+great+" "+long, 4, api.ErrNumber)
}

func TestP5_3_NamesShareNoMemory(t *testing.T) {
	text := []byte("(long 12 long)")
	l, _, _ := lex.Lex(unsafe.String(&text[0], len(text)))
	copy(text, strings.Repeat("#", len(text)))
	if want := []api.Token{open(0), name(1, "long"), number(6, 12), name(9, "long"), closing(13)}; !slices.Equal(l, want) {
		t.Fatal(l)
	}
	if unsafe.StringData(l[1].S) == unsafe.StringData(l[3].S) {
		t.Error("shared")
	}
}

func TestP5_3_ListsShareNoMemory(t *testing.T) {
	a, _, _ := lex.Lex("a b")
	b, _, _ := lex.Lex("a b")
	a[0], a[1] = open(7), open(7)
	if !slices.Equal(b, []api.Token{name(0, "a"), name(2, "b")}) {
		t.Error(b)
	}
	has(t, "a b", name(0, "a"), name(2, "b"))
}

// Random texts are held against a slower way: a byte is looked at by itself, and a word is taken to pieces at its end.
func TestP5_3_RandomTexts(t *testing.T) {
	good := 0
	for seed := range int64(4) {
		r := rand.New(rand.NewSource(seed))
		for range 10000 {
			s := randomText(r)
			l, at, e := lex.Lex(s)
			wantL, wantAt, want := slowly(s)
			if !slices.Equal(l, wantL) || at != wantAt || e != want {
				t.Fatalf("%q: %v, %d, %d, not %v, %d, %d", s, l, at, e, wantL, wantAt, want)
			}
			if e == api.OK {
				good++
				inOrder(t, s, l)
			}
		}
	}
	if good < 10000 {
		t.Error("few of the texts were good", good)
	}
}

// inOrder tells whether each token is at its offset, and nothing but blanks and comments between them.
func inOrder(t *testing.T, s string, l []api.Token) {
	t.Helper()
	end := 0
	for _, x := range l {
		if x.At < end || !isGap(s[end:x.At]) {
			t.Fatalf("%q: %v is not behind %d", s, x, end)
		}
		rest := s[x.At:]
		end = x.At + strings.IndexFunc(rest+" ", func(r rune) bool { return !strings.ContainsRune(chars, r) })
		switch x.Kind {
		case api.TokOpen, api.TokClose, api.TokQuote:
			end = x.At + 1
			if rest[0] != " ()'"[x.Kind] {
				t.Fatalf("%q: %v", s, x)
			}
		case api.TokBool:
			end = x.At + 2
			if rest[:2] != []string{"#f", "#t"}[x.N] {
				t.Fatalf("%q: %v", s, x)
			}
		case api.TokInt:
			if n, err := strconv.Atoi(s[x.At:end]); n != x.N || err != nil {
				t.Fatalf("%q: %v, %d", s, x, n)
			}
		case api.TokName:
			if s[x.At:end] != x.S {
				t.Fatalf("%q: %v, %q", s, x, s[x.At:end])
			}
		default:
			t.Fatalf("%q: %v", s, x)
		}
	}
	if !isGap(s[end:]) {
		t.Fatalf("%q: something behind %d", s, end)
	}
}

func isGap(s string) bool {
	for _, line := range strings.Split(s, "\n") {
		text, _, _ := strings.Cut(line, ";")
		if strings.Trim(text, " \t") != "" {
			return false
		}
	}
	return true
}

func slowly(s string) (l []api.Token, at int, e api.Errno) {
	if len(s) > mostText {
		return nil, 0, api.ErrLong
	}
	for i := 0; i < len(s); i++ {
		switch c := s[i]; {
		case c == ' ' || c == '\t' || c == '\n':
		case c == ';':
			for i+1 < len(s) && s[i+1] != '\n' {
				i++
			}
		case c == '(':
			l = append(l, open(i))
		case c == ')':
			l = append(l, closing(i))
		case c == '\'':
			l = append(l, quote(i))
		case c == '#' && i+1 < len(s) && (s[i+1] == 't' || s[i+1] == 'f') && (i+2 == len(s) || strings.IndexByte(chars, s[i+2]) < 0):
			l = append(l, []api.Token{no(i), yes(i)}[strings.IndexByte("ft", s[i+1])])
			i++
		case strings.IndexByte(chars, c) >= 0:
			end := i
			for end < len(s) && strings.IndexByte(chars, s[end]) >= 0 {
				end++
			}
			x, e := slowWord(s[i:end], i)
			if e != api.OK {
				return nil, i, e
			}
			l = append(l, x)
			i = end - 1
		default:
			return nil, i, api.ErrChar
		}
	}
	return l, 0, api.OK
}

func slowWord(w string, at int) (api.Token, api.Errno) {
	if strings.Trim(w, digits) == "" || w[0] == '-' && len(w) > 1 && strings.Trim(w[1:], digits) == "" {
		n, err := strconv.Atoi(w)
		if len(w) > 13 || err != nil || n <= -maxInt || n >= maxInt {
			return api.Token{}, api.ErrNumber
		}
		return number(at, n), api.OK
	}
	if len(w) > mostName {
		return api.Token{}, api.ErrLong
	}
	return name(at, w), api.OK
}

// randomText has few errors, so that many texts are good.
func randomText(r *rand.Rand) string {
	parts := []string{" ", " ", "\n", "\t", "(", ")", "'", "#t ", "#f)", "#t", "#f", ";", "; x # \xff\n", "a", "-", "0", "12", "-7", "109951162", "7775", "7776", "let", "call/cc", "xxxxxxxxxxxxxxxx", "xxxxxxxxxxxxxxx", "set!"}
	bad := []string{"#", "é", "\xff", "\xe2", ".", "\r", "#true", "\"", "1099511627776", "00000000000000"}
	s := ""
	for range r.Intn(16) {
		if r.Intn(40) == 0 {
			s += bad[r.Intn(len(bad))]
		} else {
			s += parts[r.Intn(len(parts))]
		}
	}
	return s
}
