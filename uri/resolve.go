package uri

import (
	"bytes"
	"strings"
)

// Dots is a path without parts that are dots.
func Dots(in string) string {
	out := make([]byte, 0, len(in))
	for in != "" {
		first, rest := segment(in)
		switch first {
		case ".", "..":
			in = strings.TrimPrefix(rest, stroke)
		case "/.":
			in = orStroke(rest)
		case "/..":
			in = orStroke(rest)
			out = withoutLast(out)
		default:
			out = append(out, first...)
			in = rest
		}
	}
	return string(out)
}

// segment is a path's first part, with the stroke ahead of it if there is one, and the rest. The path isn't empty.
func segment(path string) (string, string) {
	name, rest := part(path[1:])
	return path[:1+len(name)], rest
}

// orStroke is the rest of a path; where there is none, the stroke that its last part leaves.
func orStroke(rest string) string {
	if rest == "" {
		return stroke
	}
	return rest
}

// withoutLast is a path without its last part and the stroke ahead of that.
func withoutLast(path []byte) []byte {
	return path[:max(bytes.LastIndexByte(path, '/'), 0)]
}

// Resolve is what a reference means where another one stands.
func Resolve(base, r Ref) Ref {
	out := r
	switch {
	case r.HasScheme:
		out.Path = Dots(r.Path)
		return out
	case r.HasAuth:
		out.Path = Dots(r.Path)
	default:
		out.Auth, out.HasAuth = base.Auth, base.HasAuth
		out.Path = pathFrom(base, r.Path)
		if r.Path == "" && !r.HasQuery {
			out.Query, out.HasQuery = base.Query, base.HasQuery
		}
	}
	out.Scheme, out.HasScheme = base.Scheme, base.HasScheme
	return out
}

// pathFrom is the path that another one means where a reference stands.
func pathFrom(base Ref, path string) string {
	switch {
	case path == "":
		return base.Path
	case strings.HasPrefix(path, stroke):
		return Dots(path)
	case base.HasAuth && base.Path == "":
		return Dots(stroke + path)
	}
	return Dots(base.Path[:strings.LastIndex(base.Path, stroke)+1] + path)
}
