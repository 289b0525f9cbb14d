package cookie_test

import (
	"strings"
	"testing"

	"wicketman/cookie"
)

const (
	hostFront   = "__Host-"
	secureFront = "__Secure-"
)

func paths() []string {
	return []string{"/", "", "//", "/a", "a", "/a/", "a/", " /", "/ ", "/\x00", "\\", "\u2215", "\xff", ".", "/.", "%2F", "/; Secure", of(1000)}
}

// bears asks a name's front with all that may stand beside it.
func bears(t *testing.T, name string, want func(secure bool, path string, domain bool) bool) {
	t.Helper()
	for _, secure := range []bool{true, false} {
		for _, path := range paths() {
			for _, domain := range []bool{true, false} {
				if got := cookie.Prefix(name, secure, path, domain); got != want(secure, path, domain) {
					t.Errorf("Prefix of %q, %v, %q, %v: %v", name, secure, path, domain, got)
				}
			}
		}
	}
}

func ofHost(secure bool, path string, domain bool) bool { return secure && path == "/" && !domain }

func ofSecure(secure bool, _ string, _ bool) bool { return secure }

func ofAny(bool, string, bool) bool { return true }

func TestPrefix(t *testing.T) {
	for _, c := range []struct {
		name   string
		secure bool
		path   string
		domain bool
		want   bool
	}{
		{"__Host-id", true, "/", false, true},
		{"__Host-id", false, "/", false, false},
		{"__Host-id", true, "", false, false},
		{"__Host-id", true, "/a", false, false},
		{"__Host-id", true, "//", false, false},
		{"__Host-id", true, "/", true, false},
		{"__Host-id", false, "", true, false},
		{"__Host-id", false, "/", true, false},
		{"__Secure-id", true, "/", false, true},
		{"__Secure-id", true, "", true, true},
		{"__Secure-id", true, "/a", true, true},
		{"__Secure-id", false, "/", false, false},
		{"__Secure-id", false, "", true, false},
		{"id", true, "/", false, true},
		{"id", false, "", true, true},
		{"id", false, "/a", true, true},
	} {
		if got := cookie.Prefix(c.name, c.secure, c.path, c.domain); got != c.want {
			t.Errorf("Prefix of %q, %v, %q, %v: %v, want %v", c.name, c.secure, c.path, c.domain, got, c.want)
		}
	}
}

// inLetters are all ways to write a front in great letters and in small ones.
func inLetters(front string) []string {
	l := []string{""}
	for i := range len(front) {
		small, great := strings.ToLower(front[i:i+1]), strings.ToUpper(front[i:i+1])
		var longer []string
		for _, s := range l {
			longer = append(longer, s+small)
			if great != small {
				longer = append(longer, s+great)
			}
		}
		l = longer
	}
	return l
}

func behindFronts() []string {
	return []string{"", "i", "id", "ID", "-", "_", " ", "\x00", "\xff", "\u00e9", hostFront, secureFront, of(1000)}
}

func TestFrontsInAnyLetters(t *testing.T) {
	hosts, secures := inLetters(hostFront), inLetters(secureFront)
	if len(hosts) != 1<<4 || len(secures) != 1<<6 {
		t.Fatalf("%d and %d ways to write the fronts", len(hosts), len(secures))
	}
	for _, behind := range behindFronts() {
		for _, front := range hosts {
			bears(t, front+behind, ofHost)
		}
		for _, front := range secures {
			bears(t, front+behind, ofSecure)
		}
	}
}

// What is a byte short of a front, has a byte more ahead of it or within, or has the front in its middle, bears none.
func TestNamesWithoutAFront(t *testing.T) {
	bears(t, "", ofAny)
	for _, front := range []string{hostFront, secureFront, strings.ToLower(hostFront), strings.ToUpper(secureFront)} {
		for _, behind := range behindFronts() {
			for at := range len(front) {
				bears(t, front[:at], ofAny)
				if at > 0 {
					bears(t, front[at:]+behind, ofAny)
				}
				// Without its last byte, what stands behind may begin with that byte.
				if short := front[:at] + front[at+1:] + behind; !strings.HasPrefix(short, front) {
					bears(t, short, ofAny)
				}
			}
			for _, ahead := range []string{"a", " ", "-", "__", "\x00", "\xff", "__Host", "__Secure", "__Host_", "__Secure_", "__Secur", "id="} {
				bears(t, ahead+front+behind, ofAny)
			}
		}
		for at := 1; at < len(front); at++ {
			for _, within := range []string{"x", " ", "\x00", "\xff", "\u00e9"} {
				bears(t, front[:at]+within+front[at:]+"id", ofAny)
			}
		}
	}
	for _, name := range []string{"a", "id", "ID", "Host-id", "Secure-id", "__", "__id", "__Host", "__Secure", "__Host_id", "__Secure_id", "__Host id", "__Host.id", "__Http-id", "__Hosts-id", "__Security-id", "__Host\u2010id", "__Host\u2013id", "__Ho\u017ft-id", "__\u017fecure-id", "__\u017fECURE-id", "\uff3f\uff3fHost-id", "__\uff28ost-id", "__H\u00f6st-id"} {
		bears(t, name, ofAny)
	}
}

// Each byte at each place of a front: only the same letter, great or small, leaves the front what it is.
func TestEachByteOfAFront(t *testing.T) {
	for _, c := range every() {
		for at := range len(hostFront) {
			want := ofAny
			if strings.ToLower(hostFront[at:at+1]) == one(c) || strings.ToUpper(hostFront[at:at+1]) == one(c) {
				want = ofHost
			}
			bears(t, hostFront[:at]+one(c)+hostFront[at+1:]+"id", want)
		}
		for at := range len(secureFront) {
			want := ofAny
			if strings.ToLower(secureFront[at:at+1]) == one(c) || strings.ToUpper(secureFront[at:at+1]) == one(c) {
				want = ofSecure
			}
			bears(t, secureFront[:at]+one(c)+secureFront[at+1:]+"id", want)
		}
	}
}
