package edwards

import "custumal/field"

// wide is the point x / z, y / z, with t = x y / z: such points are added without a division, which takes far longer than all else.
type wide struct{ x, y, z, t field.Elem }

func (p Point) wide() wide {
	y := p.y()
	return wide{p.x, y, field.Small(1), field.Mul(p.x, y)}
}

func (p wide) point() Point {
	part := field.Inv(p.z)
	return pair(field.Mul(p.x, part), field.Mul(p.y, part))
}

// add: of any two, like or unlike: as d has no square root, z never becomes nought.
func (p wide) add(q wide) wide {
	a := field.Mul(field.Sub(p.y, p.x), field.Sub(q.y, q.x))
	b := field.Mul(field.Add(p.y, p.x), field.Add(q.y, q.x))
	c := field.Mul(field.Mul(p.t, q.t), twiceBend())
	d := field.Mul(p.z, field.Add(q.z, q.z))
	e, f, g, h := field.Sub(b, a), field.Sub(d, c), field.Add(d, c), field.Add(b, a)
	return wide{field.Mul(e, f), field.Mul(g, h), field.Mul(f, g), field.Mul(e, h)}
}

func (p wide) twice() wide { return p.add(p) }

func (p wide) eight() wide { return p.twice().twice().twice() }

// firstTimes: of p, from no time on.
func firstTimes(p wide) [16]wide {
	few := [16]wide{Point{}.wide()}
	for i := 1; i < len(few); i++ {
		few[i] = few[i-1].add(p)
	}
	return few
}

// bend: the curve's d, -121665 / 121666.
func bend() field.Elem {
	return field.Elem{0x75eb4dca135978a3, 0x00700a4d4141d8ab, 0x8cc740797779e898, 0x52036cee2b6ffe73}
}

func twiceBend() field.Elem {
	return field.Elem{0xebd69b9426b2f159, 0x00e0149a8283b156, 0x198e80f2eef3d130, 0x2406d9dc56dffce7}
}
