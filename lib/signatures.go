package lib

import (
	"strings"

	"commonform/api"
)

// signature says which arguments a builtin function takes: letters for their types.
type signature struct {
	name, letters string // those of the arguments that are named, also of those that may be left out
	least         int
	rest, last    byte // the types of any number of further arguments, and of one behind these; 0 without them
}

// written is a builtin function as the document's tables have it: [..] may be left out, .. are any number.
type written struct{ name, args string }

// signatures returns the builtin functions in the order of the document's tables.
func signatures() []signature {
	var all []signature
	for _, table := range [][]written{ofLists(), ofKinds(), ofNumbers(), ofSymbols(), ofTexts(), ofArrays(), ofPrinting()} {
		for _, line := range table {
			all = append(all, line.signature())
		}
	}
	return all
}

func (line written) signature() signature {
	s := signature{name: line.name}
	for _, word := range strings.Fields(line.args) {
		letter, many := strings.CutSuffix(word, "..")
		switch {
		case many:
			s.rest = letter[0]
		case letter[0] == '[':
			s.letters += letter[1:2]
		case s.rest != 0:
			s.last = letter[0]
			s.least++
		default:
			s.letters += letter
			s.least++
		}
	}
	return s
}

// most returns how many arguments there may be, -1 for any number.
func (s signature) most() int {
	if s.rest != 0 {
		return -1
	}
	return len(s.letters)
}

// takes reports whether there may be so many arguments.
func (s signature) takes(n int) bool { return n >= s.least && (s.rest != 0 || n <= len(s.letters)) }

// letter returns the type of the argument i of n.
func (s signature) letter(i, n int) byte {
	switch {
	case s.last != 0 && i == n-1:
		return s.last
	case i < len(s.letters):
		return s.letters[i]
	}
	return s.rest
}

// typeNames returns the names of the types in the order in which they stand above the tables.
func typeNames() []string {
	return []string{"LIST", "SEQUENCE", "SYMBOL", "NUMBER", "REAL", "RATIONAL", "INTEGER", "UNSIGNED-BYTE", "CHARACTER", "STRING", "ARRAY", "HASH-TABLE", "CONS", "FUNCTION"}
}

// typeName returns the name of the type of a letter.
func typeName(letter byte) string {
	switch letter {
	case 'l', 'p':
		return "LIST"
	case 'q':
		return "SEQUENCE"
	case 's':
		return "SYMBOL"
	case 'n':
		return "NUMBER"
	case 'r':
		return "REAL"
	case 'a':
		return "RATIONAL"
	case 'i':
		return "INTEGER"
	case 'k':
		return "UNSIGNED-BYTE"
	case 'c':
		return "CHARACTER"
	case 't':
		return "STRING"
	case 'v':
		return "ARRAY"
	case 'h':
		return "HASH-TABLE"
	case 'd':
		return "CONS"
	}
	return "FUNCTION"
}

// Names returns the names of all builtin functions, in order.
func Names() []string {
	var l []string
	for _, s := range signatures() {
		l = append(l, s.name)
	}
	return l
}

// Arity returns how many arguments a builtin function takes, at least and at most (-1: any number).
func Arity(name string) (least, most int, e api.Errno) {
	for _, s := range signatures() {
		if s.name == name {
			return s.least, s.most(), api.OK
		}
	}
	return 0, 0, api.ErrNone
}

func ofLists() []written {
	return []written{
		{"CONS", "x x"}, {"CAR", "l"}, {"CDR", "l"}, {"RPLACA", "d x"}, {"RPLACD", "d x"},
		{"LIST", "x.."}, {"LIST*", "x x.."},
		{"CONSP", "x"}, {"ATOM", "x"}, {"LISTP", "x"}, {"NULL", "x"}, {"NOT", "x"},
		{"APPEND", "x.."}, {"REVERSE", "p"}, {"NTH", "k l"}, {"NTHCDR", "k l"}, {"LAST", "l"},
		{"LENGTH", "q"}, {"MEMBER", "x p"}, {"ASSOC", "x p"}, {"COPY-LIST", "p"},
	}
}

func ofKinds() []written {
	return []written{
		{"EQ", "x x"}, {"EQL", "x x"}, {"EQUAL", "x x"}, {"EQUALP", "x x"},
		{"SYMBOLP", "x"}, {"KEYWORDP", "x"}, {"NUMBERP", "x"}, {"INTEGERP", "x"}, {"RATIONALP", "x"},
		{"REALP", "x"}, {"FLOATP", "x"}, {"COMPLEXP", "x"}, {"CHARACTERP", "x"}, {"STRINGP", "x"},
		{"BIT-VECTOR-P", "x"}, {"VECTORP", "x"}, {"ARRAYP", "x"}, {"FUNCTIONP", "x"}, {"HASH-TABLE-P", "x"},
	}
}

func ofNumbers() []written {
	return []written{
		{"+", "n.."}, {"*", "n.."}, {"-", "n n.."}, {"/", "n n.."}, {"=", "n n.."}, {"/=", "n n.."},
		{"<", "r r.."}, {"<=", "r r.."}, {">", "r r.."}, {">=", "r r.."}, {"MAX", "r r.."}, {"MIN", "r r.."},
		{"ABS", "r"}, {"FLOOR", "r [r]"}, {"CEILING", "r [r]"}, {"TRUNCATE", "r [r]"}, {"ROUND", "r [r]"},
		{"MOD", "r r"}, {"REM", "r r"}, {"GCD", "i.."}, {"LCM", "i.."},
		{"LOGAND", "i.."}, {"LOGIOR", "i.."}, {"LOGXOR", "i.."}, {"LOGNOT", "i"}, {"ASH", "i i"}, {"EXPT", "n i"},
		{"NUMERATOR", "a"}, {"DENOMINATOR", "a"}, {"COMPLEX", "r [r]"}, {"REALPART", "n"}, {"IMAGPART", "n"},
		{"RATIONAL", "r"}, {"RATIONALIZE", "r"}, {"FLOAT", "r [r]"},
	}
}

func ofSymbols() []written {
	return []written{
		{"SYMBOL-NAME", "s"}, {"SYMBOL-PACKAGE", "s"}, {"SYMBOL-VALUE", "s"}, {"SET", "s x"},
		{"BOUNDP", "s"}, {"MAKUNBOUND", "s"}, {"SYMBOL-FUNCTION", "s"}, {"%FSET", "s g"},
		{"FBOUNDP", "s"}, {"FMAKUNBOUND", "s"}, {"SYMBOL-PLIST", "s"}, {"%SET-PLIST", "s x"},
		{"INTERN", "t [t]"}, {"FIND-SYMBOL", "t [t]"}, {"MAKE-SYMBOL", "t"}, {"GENSYM", "[t]"},
	}
}

func ofTexts() []written {
	return []written{
		{"CHAR-CODE", "c"}, {"CODE-CHAR", "k"}, {"CHAR-UPCASE", "c"}, {"CHAR-DOWNCASE", "c"}, {"CHAR", "t k"},
		{"STRING=", "t t"}, {"STRING<", "t t"}, {"CONCAT", "t.."}, {"SUBSEQ", "q k [k]"}, {"STRING", "x"},
	}
}

func ofArrays() []written {
	return []written{
		{"VECTOR", "x.."}, {"MAKE-ARRAY", "x [x]"}, {"AREF", "v k.."}, {"%ASET", "v k.. x"},
		{"ARRAY-DIMENSIONS", "v"}, {"ARRAY-RANK", "v"},
		{"MAKE-HASH-TABLE", "s"}, {"GETHASH", "x h [x]"}, {"%PUTHASH", "x h x"}, {"REMHASH", "x h"}, {"CLRHASH", "h"},
		{"HASH-TABLE-COUNT", "h"}, {"HASH-KEYS", "h"},
	}
}

func ofPrinting() []written {
	return []written{
		{"TYPEP", "x x"}, {"SUBTYPEP", "x x"}, {"FUNCALL", "g x.."}, {"APPLY", "g x x.."}, {"VALUES", "x.."}, {"IDENTITY", "x"},
		{"PRIN1", "x"}, {"PRINC", "x"}, {"PRINT", "x"}, {"TERPRI", ""}, {"WRITE-STRING", "t"},
		{"PRIN1-TO-STRING", "x"}, {"PRINC-TO-STRING", "x"}, {"READ-FROM-STRING", "t"}, {"FORMAT", "x t x.."},
	}
}
