import Derived.Test.YtkiepcdncegniaaPoj
import Derived.Test.YtkiepcdncegniaaOaa
import Derived.Deep.RegionHeld3
namespace Go.Proofs.Ytkiepcdncegniaa
open Go.RowKit

theorem box1 (w : World) (a : Obj) : Fr (fun _ => False) w (w.alloc a) := (Fr.refl _ _).alloc _
theorem Fr.drewN {S : Nat → Prop} {a w : World} (h : Fr S a w) (n : Nat) : Fr S a (w.drewN n) := ⟨h.os, h.tape, h.output, h.size, h.block⟩
/-- Are these the bits of a number in its one form? -/
def canB (x : Nat) : Bool := decide (x % 2147483648 < 2139095040) && decide (x ≠ 2147483648)
/-- Has a field that has a name a form? -/
def fldB (f : F5) : Bool := decide (f.n.size ≤ 64) && decide (f.t.size ≤ 64) && (if f.k = 1 then decide (f.v = 0 ∧ f.u = 0) else if f.k = 2 then decide (f.t.size = 0) && canB f.v && decide (1 ≤ f.u ∧ f.u ≤ 21) else if f.k = 3 then decide (f.t.size = 0) && decide (f.v = 0 ∧ f.u = 0) else false)
/-- Is a text not above another? -/
def sleB (v a : ByteArray) : Bool := Op.bytesLess v.toList a.toList || v.toList == a.toList
/-- Do fields rise, and has each a form? -/
def risB (gone : Bool) : ByteArray → List F5 → Bool
  | _, [] => true
  | a, f :: r => !(sleB f.n a) && fldB f && (decide (f.k ≠ 3) || gone) && risB gone f.n r
def fdsB (l : List F5) (gone : Bool) : Bool := decide (l.length ≤ 32) && risB gone ⟨#[]⟩ l
/-- A request. -/
structure RQ where
  cl : Nat
  nu : Nat
  ac : Nat
  op : Nat
  rc : Nat
  ve : Nat
  wa : Nat
  ow : Nat
  fv : Value
  rs : ByteArray
def RQ.v (r : RQ) : Value := .agg #[.int .u32 (r.cl : Nat), .int .u32 (r.nu : Nat), .int .u32 (r.ac : Nat), .int .u8 (r.op : Nat), .int .u32 (r.rc : Nat), .int .u32 (r.ve : Nat), .int .u32 (r.wa : Nat), .int .u32 (r.ow : Nat), r.fv, .string r.rs]
end Go.Proofs.Ytkiepcdncegniaa
