import Derived.Test.YtdcopmkgmbiikaaGreatDoorPw9
import Derived.Test.YtdcopmkgmbiikaaGreatDoorPw3
import Derived.Test.YtdcopmkgmbiikaaGreatDoorPw6
import Derived.Test.YtdcopmkgmbiikaaGreatDoorPw7
import Derived.Test.YtdcopmkgmbiikaaGreatDoorPw1
import Derived.Test.YtdcopmkgmbiikaaGreatDoorKTld
import Derived.LaidHandle
import Derived.Test.YtdcopmkgmbiikaaGreatDoorCards
import Derived.Test.YtdcopmkgmbiikaaGreatDoorTie
namespace Go.Proofs.YtdcopmkgmbiikaaGreatDoor
open Go.RowKit
set_option linter.unusedSimpArgs false
theorem fieldsC : FieldsC := fun xo xc l used gone w h1 h2 h3 => gfields_any xo xc l used gone w h1 h2 h3
def okP (p : PT) : Prop := (p.k = 1 ∨ p.k = 4 ∨ p.k = 5 ∨ p.k = 6) ∧ p.u < 18446744073709551616 ∧ p.b.length < 9223372036854775808
def OkL (L : List PT) (n : Nat) : Prop := (∀ p ∈ L, okP p) ∧ bnd L ≤ n
theorem OkL.nil : OkL [] 0 := ⟨fun p hp => (by cases hp), Nat.le_refl _⟩
theorem OkL.app {a b : List PT} {m n : Nat} (h : OkL a m) (k : OkL b n) : OkL (a ++ b) (m + n) := ⟨fun p hp => by
 rcases List.mem_append.1 hp with hp | hp
 ·exact h.1 p hp
 ·exact k.1 p hp, by
 unfold bnd
 rw [List.map_append, List.sum_append]
 exact Nat.add_le_add h.2 k.2⟩
theorem OkL.cons {p : PT} {b : List PT} {m n : Nat} (h : okP p) (hm : 8 + p.b.length ≤ m) (k : OkL b n) : OkL (p :: b) (m + n) := OkL.app (a := [p]) ⟨fun q hq => by obtain rfl := List.mem_singleton.1 hq; exact h, by simpa [bnd] using hm⟩ k
theorem OkL.le {a : List PT} {m n : Nat} (h : OkL a m) (hn : m ≤ n) : OkL a n := ⟨h.1, Nat.le_trans h.2 hn⟩
theorem ok1 (nm : ByteArray) (u wy : Nat) (h : u < 18446744073709551616) : okP ⟨nm, 1, u, [], wy⟩ := ⟨.inl rfl, h, (by decide : 0 < 9223372036854775808)⟩
theorem ok4 (nm : ByteArray) (u wy : Nat) (h : u < 18446744073709551616) : okP ⟨nm, 4, u, [], wy⟩ := ⟨.inr (.inl rfl), h, (by decide : 0 < 9223372036854775808)⟩
theorem ok5 (nm : ByteArray) (u wy : Nat) (h : u < 18446744073709551616) : okP ⟨nm, 5, u, [], wy⟩ := ⟨.inr (.inr (.inl rfl)), h, (by decide : 0 < 9223372036854775808)⟩
theorem ok6 (nm : ByteArray) (b : List Nat) (wy : Nat) (h : b.length ≤ 1048576) : okP ⟨nm, 6, 0, b, wy⟩ := ⟨.inr (.inr (.inr rfl)), (by decide : 0 < 18446744073709551616), Nat.lt_of_le_of_lt h (by decide)⟩
theorem n8 : 8 + ([] : List Nat).length ≤ 8 := Nat.le_refl _
theorem b8 {b : List Nat} (h : b.length ≤ 1048576) : 8 + b.length ≤ 1048584 := by omega
theorem t8 {t : ByteArray} (h : t.size ≤ 1048576) : (bytesOf t).length ≤ 1048576 := by rw [bytesOf_lenP]; exact h
structure Fld.sm (f : Fld) : Prop where
 ok : f.ok
 n : f.name.size ≤ 1048576
 t : f.text.size ≤ 1048576
theorem Fld.sm.lt {f : Fld} (h : f.sm) : f.name.size < 140737488355000 ∧ f.text.size < 140737488355000 := ⟨Nat.lt_of_le_of_lt h.n (by decide), Nat.lt_of_le_of_lt h.t (by decide)⟩
theorem u8lt {n : Nat} (h : n < 256) : n < 18446744073709551616 := Nat.lt_trans h (by decide)
theorem u32lt {n : Nat} (h : n < 4294967296) : n < 18446744073709551616 := Nat.lt_trans h (by decide)
theorem okL_named (last : Nat) (a : ByteArray) (f : Fld) (h : f.sm) : OkL (namedP last a f) 2097200 := by
 unfold namedP fieldP
 have hk := u8lt h.ok.kind
 by_cases k1 : f.kind = 1
 ·rw [if_pos k1]
  exact ((OkL.cons (ok6 _ _ _ (t8 h.n)) (b8 (t8 h.n)) (OkL.cons (ok1 _ _ _ hk) n8 (OkL.cons (ok6 _ _ _ (t8 h.t)) (b8 (t8 h.t)) OkL.nil)))).le (by decide)
 ·rw [if_neg k1]
  by_cases k2 : f.kind = 2
  ·rw [if_pos k2]
   exact ((OkL.cons (ok6 _ _ _ (t8 h.n)) (b8 (t8 h.n)) (OkL.cons (ok1 _ _ _ hk) n8 (OkL.cons (ok5 _ _ _ (u32lt h.ok.value)) n8 (OkL.cons (ok1 _ _ _ (u8lt h.ok.unit)) n8 OkL.nil))))).le (by decide)
  ·rw [if_neg k2]
   exact ((OkL.cons (ok6 _ _ _ (t8 h.n)) (b8 (t8 h.n)) (OkL.cons (ok1 _ _ _ hk) n8 OkL.nil))).le (by decide)
theorem okL_fields1 (last : Nat) : ∀ (l : List Fld) (a : ByteArray), (∀ f ∈ l, f.sm) → OkL (fieldsP1 last a l) (l.length * 2097200)
 | [], a, _ => OkL.nil
 | f :: r, a, h => by
  have h1 := okL_named last a f (h f (.head _))
  have h2 := okL_fields1 last r f.name (fun g hg => h g (.tail _ hg))
  exact (h1.app h2).le (by rw [List.length_cons, Nat.succ_mul]; omega)
theorem len64 {n : Nat} (h : n ≤ 1048576) : n < 18446744073709551616 := Nat.lt_of_le_of_lt h (by decide)
theorem okL_fields (used gone : Bool) (l : List Fld) (h : ∀ f ∈ l, f.sm) (hl : l.length ≤ 1048576) : OkL (fieldsD used gone l) 2199100000000 := by
 unfold fieldsD
 exact (OkL.cons (ok4 _ _ _ (len64 hl)) n8 (okL_fields1 _ l _ h)).le (by
  have := Nat.mul_le_mul_right 2097200 hl
  omega)
theorem okL_id {a b : Nat} (h1 : a < 4294967296) (h2 : b < 4294967296) : OkL (idP a b) 16 := OkL.cons (ok4 _ _ _ (u32lt h1)) n8 (OkL.cons (ok4 _ _ _ (u32lt h2)) n8 OkL.nil)
theorem ok_only (nm : ByteArray) (v : Nat) (u : Bool) (h : v < 4294967296) : okP (onlyD nm v u) := ok4 _ _ _ (u32lt h)
theorem okL_request (v : RqM) (hv : v.ok) (h : ∀ f ∈ v.fs, f.sm) (hl : v.fs.length ≤ 1048576) (hr : v.rs.size ≤ 1048576) : OkL (requestD v) 2199102000000 := by
 obtain ⟨h1, h2, h3, h4, h5, h6, h7, h8, h9⟩ := hv
 unfold requestD
 exact ((okL_id h1 h2).app ((OkL.cons (ok4 _ _ _ (u32lt h3)) n8 (OkL.cons (ok1 _ _ _ (u8lt h4)) n8 (OkL.cons (ok_only _ _ _ h5) n8 (OkL.cons (ok4 _ _ _ (u32lt h6)) n8 (OkL.cons (ok_only _ _ _ h7) n8 (OkL.cons (ok_only _ _ _ h8) n8 OkL.nil)))))).app ((okL_fields _ _ _ h hl).app (OkL.cons (ok6 _ _ _ (t8 hr)) (b8 (t8 hr)) OkL.nil)))).le (by decide)
theorem okL_sums : ∀ l : List SuM, (∀ f ∈ l, f.ok) → OkL (l.flatMap summaryP) (l.length * 32)
 | [], _ => OkL.nil
 | s :: r, h => by
  have hs := h s (.head _)
  have h2 := okL_sums r (fun g hg => h g (.tail _ hg))
  have hg : s.gone < 18446744073709551616 := by unfold SuM.gone; split <;> decide
  have h1 : OkL (summaryP s) 32 := OkL.cons (ok4 _ _ _ (u32lt hs.au)) n8 (OkL.cons (ok4 _ _ _ (u32lt hs.ev)) n8 (OkL.cons (ok4 _ _ _ (u32lt hs.fi)) n8 (OkL.cons (ok1 _ _ _ hg) n8 OkL.nil)))
  rw [List.flatMap_cons]
  exact (h1.app h2).le (by rw [List.length_cons, Nat.succ_mul]; omega)
theorem okL_answer (v : AnM) (hv : v.ok) (h : ∀ f ∈ v.fs, f.sm) (hl : v.fs.length ≤ 1048576) (hh : ∀ f ∈ v.hi, f.ok) (hhl : v.hi.length ≤ 1048576) : OkL (answerD v) 2199200000000 := by
 obtain ⟨h1, h2, h3, h4, h5⟩ := hv
 unfold answerD histP
 have hs := okL_sums v.hi hh
 exact (((okL_id h1 h2).app (OkL.cons (ok1 _ _ _ (u8lt h3)) n8 (OkL.cons (ok4 _ _ _ (u32lt h4)) n8 (OkL.cons (ok4 _ _ _ (u32lt h5)) n8 OkL.nil)))).app ((okL_fields _ _ _ h hl).app (OkL.cons (ok4 _ _ _ (len64 hhl)) n8 hs))).le (by
  have := Nat.mul_le_mul_right 32 hhl
  omega)
theorem okL_event (v : EvM) (hv : v.ok) (h : ∀ f ∈ v.rq.fs, f.sm) (hl : v.rq.fs.length ≤ 1048576) (hr : v.rq.rs.size ≤ 1048576) (hd : v.dg.length ≤ 1048576) : OkL (eventD v) 2199200000000 := by
 unfold eventD
 exact ((OkL.cons (ok4 _ _ _ (u32lt hv.pl)) n8 (okL_request v.rq hv.rq h hl hr)).app (OkL.cons (ok1 _ _ _ (u8lt hv.co)) n8 (OkL.cons (ok6 _ _ _ hd) (b8 hd) OkL.nil))).le (by decide)
theorem okL_head {n : Nat} {r : List Nat} (h : n < 4294967296) (hr : r.length ≤ 1048576) : OkL (headP n r) 2199200000000 := (OkL.cons (ok4 _ _ _ (u32lt h)) n8 (OkL.cons (ok6 _ _ _ hr) (b8 hr) OkL.nil)).le (by decide)
theorem okL_signed {n k : Nat} {r s : List Nat} (h : n < 4294967296) (hr : r.length ≤ 1048576) (hk : k < 4294967296) (hs : s.length ≤ 1048576) : OkL (signedP ((n, r), k, s)) 2199210000000 := ((okL_head h hr).app (OkL.cons (ok4 _ _ _ (u32lt hk)) n8 (OkL.cons (ok6 _ _ _ hs) (b8 hs) OkL.nil))).le (by decide)
theorem okL_hashes : ∀ ps : List (List Nat), (∀ p ∈ ps, p.length ≤ 1048576) → OkL (ps.map fun h => ⟨n_hash, 6, 0, h, szN 1 32 h.length⟩) (ps.length * 1048584)
 | [], _ => OkL.nil
 | p :: r, h => by
  have hp := h p (.head _)
  have h2 := okL_hashes r (fun g hg => h g (.tail _ hg))
  rw [List.map_cons]
  exact (OkL.cons (ok6 _ _ _ hp) (b8 hp) h2).le (by rw [List.length_cons, Nat.succ_mul]; omega)
theorem okL_proof (ps : List (List Nat)) (h : ∀ p ∈ ps, p.length ≤ 1048576) (hl : ps.length ≤ 1048576) : OkL (proofP ps) 2199200000000 := by
 unfold proofP
 exact (OkL.cons (ok4 _ _ _ (len64 hl)) n8 (okL_hashes ps h)).le (by
  have := Nat.mul_le_mul_right 1048584 hl
  omega)
structure MsM.sm (v : MsM) : Prop where
 ok : v.ok
 s0 : ∀ f ∈ v.rq.fs, f.sm
 s1 : ∀ f ∈ v.an.fs, f.sm
 s3 : ∀ f ∈ v.ev.rq.fs, f.sm
 l0 : v.rq.fs.length ≤ 1048576
 l1 : v.an.fs.length ≤ 1048576
 l2 : v.an.hi.length ≤ 1048576
 l3 : v.ev.rq.fs.length ≤ 1048576
 r0 : v.rq.rs.size ≤ 1048576
 r3 : v.ev.rq.rs.size ≤ 1048576
 hi : ∀ f ∈ v.an.hi, f.ok
 dg : v.ev.dg.length ≤ 1048576
theorem MsM.sm.msB {v : MsM} (h : v.sm) : MsB v := ⟨fun f hf => (h.s0 f hf).lt, fun f hf => (h.s1 f hf).lt, fun f hf => (h.s3 f hf).lt, h.l0, h.l1, h.l2, h.l3, Nat.lt_of_le_of_lt h.r0 (by decide), Nat.lt_of_le_of_lt h.r3 (by decide)⟩
theorem okL_message (v : MsM) (h : v.sm) : OkL (messageD v) 2199300000000 := by
 unfold messageD message2D
 have hid := okL_id h.ok.icl h.ok.inu
 have hb : ∀ L n, OkL L n → n ≤ 2199200000000 → OkL (⟨n_kind, 1, v.kd, [], if v.kd < 1 ∨ 7 < v.kd then 5 else if spareB v = true then 4 else 0⟩ :: L) 2199300000000 := fun L n hL hn => (OkL.cons (ok1 _ _ _ (u8lt h.ok.kd)) n8 hL).le (by omega)
 by_cases k1 : v.kd = 1
 ·rw [if_pos k1]; exact hb _ _ (okL_request _ h.ok.rq h.s0 h.l0 h.r0) (by decide)
 rw [if_neg k1]
 by_cases k2 : v.kd = 2
 ·rw [if_pos k2]; exact hb _ _ hid (by decide)
 rw [if_neg k2]
 by_cases k3 : v.kd = 3
 ·rw [if_pos k3]; exact hb _ _ (okL_answer _ h.ok.an h.s1 h.l1 h.hi h.l2) (by decide)
 rw [if_neg k3]
 by_cases k4 : v.kd = 4
 ·rw [if_pos k4]; exact hb _ _ (hid.app (OkL.cons (ok1 _ _ _ (u8lt h.ok.co)) n8 OkL.nil)) (by decide)
 rw [if_neg k4]
 by_cases k5 : v.kd = 5
 ·rw [if_pos k5]; exact hb _ _ (okL_event _ h.ok.ev h.s3 h.l3 h.r3 h.dg) (by decide)
 rw [if_neg k5]
 by_cases k6 : v.kd = 6
 ·rw [if_pos k6]; exact hb _ _ (OkL.cons (ok4 _ _ _ (u32lt h.ok.le)) n8 OkL.nil) (by decide)
 rw [if_neg k6]
 exact hb _ _ OkL.nil (by decide)
theorem out_len {s : Wq} (h : (CS.wr s).room 3000000000) : s.out.length ≤ 140737488355328 := by
 have h1 := room_short h
 unfold Wq.out
 split
 ·omega
 ·simp
theorem putsC_Request (v : RqM) (x : Value) (va : List Value) (E : Nat → Addr) (w : World) (hm : ∀ (i : Nat) q, ((v.vals x).toList : List Value)[i]? = some q → va[0 + i]? = some q) (hv : v.ok) (hs : ∀ f ∈ v.fs, f.sm) (hl : v.fs.length ≤ 1048576) (hr : v.rs.size ≤ 1048576) (hx : FdI w x v.fs) :
  PutsC 1 va E w (requestW v) (requestD v) := by
 obtain ⟨xo, xc, rfl⟩ := hx.form
 have hok := okL_request v hv hs hl hr
 have hpe := Peq.put (request_peq v hv) [1]
 refine ⟨fun W hg hsz hw => ?_, fun W hw => ?_, ?_, ?_, hok.1, Nat.le_trans hok.2 (by decide), out_len (requestW_roomB v)⟩
 ·have hB := box1 W (.cells va.toArray 44)
  have hput := putRequest v _ E _ (hg.fr hB (fun _ h => h.elim)) (by have := hB.size; omega) ((hx.fr0 hw).fr0 hB) hv
  exact (lput2_Request va (v.vals (.slice xo v.fs.length xc)).toList hm rfl W (fun e V' => PutRes W V' e (requestW v) E) (hput.mono fun e V' h => PutRes.box h)).mono (fun e V' h => h.2)
 ·have hB := box1 W (.cells va.toArray 44)
  refine gparts_Request va (v.vals (.slice xo v.fs.length xc)).toList hm rfl W _ ?_
  refine (grequest_any fieldsC v xo xc _ hv ((hx.fr0 hw).fr0 hB) (fun f hf => (hs f hf).lt) hl (Nat.lt_of_le_of_lt hr (by decide))).mono ?_
  rintro e W' ⟨y, L, rfl, hP, hmp, hln, _, hf⟩
  exact ⟨_, rfl, _, _, rfl, hP.base (by simp), hmp, by omega, hB.trans hf (fun _ _ h => h)⟩
 ·rw [hpe]; exact (requestW_put v).1
 ·rw [hpe]; exact (requestW_put v).2
theorem putsC_Answer (v : AnM) (x p : Value) (va : List Value) (E : Nat → Addr) (w : World) (hm : ∀ (i : Nat) q, ((v.vals x p).toList : List Value)[i]? = some q → va[10 + i]? = some q) (hv : v.ok) (hs : ∀ f ∈ v.fs, f.sm) (hl : v.fs.length ≤ 1048576) (hh : ∀ f ∈ v.hi, f.ok) (hhl : v.hi.length ≤ 1048576) (hx : FdI w x v.fs) (hp : SuI w p v.hi) :
  PutsC 2 va E w (answerW v) (answerD v) := by
 obtain ⟨xo, xc, rfl⟩ := hx.form
 obtain ⟨yo, yc, rfl⟩ := hp.form
 have hok := okL_answer v hv hs hl hh hhl
 have hpe := Peq.put (answer_peq v) [2]
 refine ⟨fun W hg hsz hw => ?_, fun W hw => ?_, ?_, ?_, hok.1, Nat.le_trans hok.2 (by decide), out_len (answerW_roomB v)⟩
 ·have hB := box1 W (.cells va.toArray 44)
  have hput := putAnswer v _ _ E _ (hg.fr hB (fun _ h => h.elim)) (by have := hB.size; omega) ((hx.fr0 hw).fr0 hB) ((hp.fr0 hw).fr0 hB) hv
  exact (lput2_Answer va (v.vals (.slice xo v.fs.length xc) (.slice yo v.hi.length yc)).toList hm rfl W (fun e V' => PutRes W V' e (answerW v) E) (hput.mono fun e V' h => PutRes.box h)).mono (fun e V' h => h.2)
 ·have hB := box1 W (.cells va.toArray 44)
  refine gparts_Answer va (v.vals (.slice xo v.fs.length xc) (.slice yo v.hi.length yc)).toList hm rfl W _ ?_
  refine (ganswer_any fieldsC v xo yo xc yc _ hv ((hx.fr0 hw).fr0 hB) (fun f hf => (hs f hf).lt) hl ((hp.fr0 hw).fr0 hB) hhl).mono ?_
  rintro e W' ⟨y, L, rfl, hP, hmp, hln, _, hf⟩
  exact ⟨_, rfl, _, _, rfl, hP.base (by simp), hmp, by omega, hB.trans hf (fun _ _ h => h)⟩
 ·rw [hpe]; exact (answerW_put v).1
 ·rw [hpe]; exact (answerW_put v).2
theorem putsC_Event (v : EvM) (x p : Value) (va : List Value) (E : Nat → Addr) (w : World) (hm : ∀ (i : Nat) q, ((v.vals x p).toList : List Value)[i]? = some q → va[17 + i]? = some q) (hv : v.ok) (hs : ∀ f ∈ v.rq.fs, f.sm) (hl : v.rq.fs.length ≤ 1048576) (hr : v.rq.rs.size ≤ 1048576) (hd : v.dg.length ≤ 1048576) (hx : FdI w x v.rq.fs) (hp : SlI w p v.dg) :
  PutsC 3 va E w (eventW v) (eventD v) := by
 obtain ⟨xo, xc, rfl⟩ := hx.form
 obtain ⟨yo, yc, rfl⟩ := hp.src.form
 have hok := okL_event v hv hs hl hr hd
 have hpe := Peq.put (event_peq v hv) [3]
 refine ⟨fun W hg hsz hw => ?_, fun W hw => ?_, ?_, ?_, hok.1, Nat.le_trans hok.2 (by decide), out_len (eventW_roomB v)⟩
 ·have hB := box1 W (.cells va.toArray 44)
  have hput := putEvent v _ _ E _ (hg.fr hB (fun _ h => h.elim)) (by have := hB.size; omega) ((hx.fr0 hw).fr0 hB) ((hp.fr0 hw).fr0 hB) hv
  exact (lput2_Event va (v.vals (.slice xo v.rq.fs.length xc) (.slice yo v.dg.length yc)).toList hm rfl W (fun e V' => PutRes W V' e (eventW v) E) (hput.mono fun e V' h => PutRes.box h)).mono (fun e V' h => h.2)
 ·have hB := box1 W (.cells va.toArray 44)
  refine gparts_Event va (v.vals (.slice xo v.rq.fs.length xc) (.slice yo v.dg.length yc)).toList hm rfl W _ ?_
  refine (gevent_any fieldsC v xo yo xc yc _ hv ((hx.fr0 hw).fr0 hB) (fun f hf => (hs f hf).lt) hl (Nat.lt_of_le_of_lt hr (by decide)) ((hp.fr0 hw).fr0 hB)).mono ?_
  rintro e W' ⟨y, L, rfl, hP, hmp, hln, _, hf⟩
  exact ⟨_, rfl, _, _, rfl, hP.base (by simp), hmp, by omega, hB.trans hf (fun _ _ h => h)⟩
 ·rw [hpe]; exact (eventW_put v).1
 ·rw [hpe]; exact (eventW_put v).2
theorem putsC_Head (n : Nat) (r : List Nat) (x : Value) (va : List Value) (E : Nat → Addr) (w : World) (hm : ∀ (i : Nat) q, ([.int .u32 (n : Nat), x] : List Value)[i]? = some q → va[30 + i]? = some q) (hv : n < 4294967296) (hd : r.length ≤ 1048576) (hx : SlI w x r) :
  PutsC 4 va E w (headW n r) (headP n r) := by
 obtain ⟨xo, xc, rfl⟩ := hx.src.form
 have hok := okL_head hv hd
 refine ⟨fun W hg hsz hw => ?_, fun W hw => ?_, ?_, ?_, hok.1, Nat.le_trans hok.2 (by decide), out_len (headW_roomB n r)⟩
 ·have hB := box1 W (.cells va.toArray 44)
  have hput := putHead n r _ E _ (hg.fr hB (fun _ h => h.elim)) (by have := hB.size; omega) ((hx.fr0 hw).fr0 hB) hv
  exact (lput2_Head va [.int .u32 (n : Nat), .slice xo r.length xc] hm rfl W (fun e V' => PutRes W V' e (headW n r) E) (hput.mono fun e V' h => PutRes.box h)).mono (fun e V' h => h.2)
 ·have hB := box1 W (.cells va.toArray 44)
  refine gparts_Head va [.int .u32 (n : Nat), .slice xo r.length xc] hm rfl W _ ?_
  refine (ghead_any n r xo xc hv _ ((hx.fr0 hw).fr0 hB)).mono ?_
  rintro e W' ⟨y, rfl, hP, hf⟩
  exact ⟨_, rfl, _, _, rfl, hP.base (by simp), rfl, (by simp [headV]), hB.trans hf (fun _ _ h => h)⟩
 ·exact (headW_put n r).1
 ·exact (headW_put n r).2
theorem putsC_Signed (n : Nat) (r : List Nat) (k : Nat) (g : List Nat) (x p : Value) (va : List Value) (E : Nat → Addr) (w : World) (hm : ∀ (i : Nat) q, ([.int .u32 (n : Nat), x, .int .u32 (k : Nat), p] : List Value)[i]? = some q → va[32 + i]? = some q) (hv : n < 4294967296) (hk : k < 4294967296) (hd : r.length ≤ 1048576) (hd2 : g.length ≤ 1048576) (hx : SlI w x r) (hp : SlI w p g) :
  PutsC 5 va E w (signedW ((n, r), k, g)) (signedP ((n, r), k, g)) := by
 obtain ⟨xo, xc, rfl⟩ := hx.src.form
 obtain ⟨yo, yc, rfl⟩ := hp.src.form
 have hok := okL_signed hv hd hk hd2
 refine ⟨fun W hg hsz hw => ?_, fun W hw => ?_, ?_, ?_, hok.1, Nat.le_trans hok.2 (by decide), out_len (signedW_roomB n k r g)⟩
 ·have hB := box1 W (.cells va.toArray 44)
  have hput := putSigned n k r g _ _ E _ (hg.fr hB (fun _ h => h.elim)) (by have := hB.size; omega) ((hx.fr0 hw).fr0 hB) ((hp.fr0 hw).fr0 hB) hv hk
  exact (lput2_Signed va [.int .u32 (n : Nat), .slice xo r.length xc, .int .u32 (k : Nat), .slice yo g.length yc] hm rfl W (fun e V' => PutRes W V' e (signedW ((n, r), k, g)) E) (hput.mono fun e V' h => PutRes.box h)).mono (fun e V' h => h.2)
 ·have hB := box1 W (.cells va.toArray 44)
  refine gparts_Signed va [.int .u32 (n : Nat), .slice xo r.length xc, .int .u32 (k : Nat), .slice yo g.length yc] hm rfl W _ ?_
  refine (gsigned_any n k r g xo yo xc yc hv hk _ ((hx.fr0 hw).fr0 hB) ((hp.fr0 hw).fr0 hB)).mono ?_
  rintro e W' ⟨y, rfl, hP, hf⟩
  exact ⟨_, rfl, _, _, rfl, hP.base (by simp), rfl, (by simp [headV, keyV]), hB.trans hf (fun _ _ h => h)⟩
 ·exact (signedW_put ((n, r), k, g)).1
 ·exact (signedW_put ((n, r), k, g)).2
theorem putsC_Proof (ps : List (List Nat)) (xo : Option Addr) (xc : Nat) (va : List Value) (E : Nat → Addr) (w : World) (hm : ∀ (i : Nat) q, ([.slice xo ps.length xc] : List Value)[i]? = some q → va[36 + i]? = some q) (hd : ∀ p ∈ ps, p.length ≤ 1048576) (hl : ps.length ≤ 1048576) (hx : PcL w xo xc ps) :
  PutsC 6 va E w (proofW ps) (proofP ps) := by
 have hok := okL_proof ps hd hl
 refine ⟨fun W hg hsz hw => ?_, fun W hw => ?_, ?_, ?_, hok.1, Nat.le_trans hok.2 (by decide), out_len (proofW_roomB ps)⟩
 ·have hB := box1 W (.cells va.toArray 44)
  have hput := putProofV ps xo xc E _ (hg.fr hB (fun _ h => h.elim)) (by have := hB.size; omega) ((hx.fr0 hw).fr0 hB)
  exact (lput2_Proof va [.slice xo ps.length xc] hm rfl W (fun e V' => PutRes W V' e (proofW ps) E) (hput.mono fun e V' h => PutRes.box h)).mono (fun e V' h => h.2)
 ·have hB := box1 W (.cells va.toArray 44)
  refine gparts_Proof va [.slice xo ps.length xc] hm rfl W _ ?_
  refine (gproof_any ps xo xc _ ((hx.fr0 hw).fr0 hB) hl).mono ?_
  rintro e W' ⟨y, L, rfl, hP, hmp, hf⟩
  exact ⟨_, rfl, _, _, rfl, hP.base (by simp), hmp, (by have h := congrArg List.length hmp; simp [proofP] at h; omega), hB.trans hf (fun _ _ h => h)⟩
 ·exact (proofW_put ps).1
 ·exact (proofW_put ps).2
theorem putsC_Message (v : MsM) (x0 x1 x2 x3 x4 : Value) (va : List Value) (E : Nat → Addr) (w : World) (hm : ∀ (i : Nat) q, ((v.vals x0 x1 x2 x3 x4).toList : List Value)[i]? = some q → va[37 + i]? = some q) (hv : v.sm) (hx : MsI w v x0 x1 x2 x3 x4) :
  PutsC 7 va E w (messageW v) (messageD v) := by
 obtain ⟨a0, c0, rfl⟩ := hx.i0.form
 obtain ⟨a1, c1, rfl⟩ := hx.i1.form
 obtain ⟨a2, c2, rfl⟩ := hx.i2.form
 obtain ⟨a3, c3, rfl⟩ := hx.i3.form
 obtain ⟨a4, c4, rfl⟩ := hx.i4.src.form
 have hok := okL_message v hv
 have hpe := Peq.put (message_peq v hv.ok) [7]
 refine ⟨fun W hg hsz hw => ?_, fun W hw => ?_, ?_, ?_, hok.1, Nat.le_trans hok.2 (by decide), out_len (messageW_roomB v)⟩
 ·have hB := box1 W (.cells va.toArray 44)
  have hput := putMessage v _ _ _ _ _ E _ (hg.fr hB (fun _ h => h.elim)) (by have := hB.size; omega) ((hx.fr0 hw).fr0 hB) hv.ok
  exact (lput2_Message va (v.vals (.slice a0 v.rq.fs.length c0) (.slice a1 v.an.fs.length c1) (.slice a2 v.an.hi.length c2) (.slice a3 v.ev.rq.fs.length c3) (.slice a4 v.ev.dg.length c4)).toList hm rfl W (fun e V' => PutRes W V' e (messageW v) E) (hput.mono fun e V' h => PutRes.box h)).mono (fun e V' h => h.2)
 ·have hB := box1 W (.cells va.toArray 44)
  refine gparts_Message va (v.vals (.slice a0 v.rq.fs.length c0) (.slice a1 v.an.fs.length c1) (.slice a2 v.an.hi.length c2) (.slice a3 v.ev.rq.fs.length c3) (.slice a4 v.ev.dg.length c4)).toList hm rfl W _ ?_
  refine (gmessage_any fieldsC v a0 a1 a2 a3 a4 c0 c1 c2 c3 c4 _ hv.ok ((hx.fr0 hw).fr0 hB) hv.msB).mono ?_
  rintro e W' ⟨y, L, rfl, hP, hmp, hln, hf⟩
  exact ⟨_, rfl, _, _, rfl, hP.base (by simp), hmp, hln, hB.trans hf (fun _ _ h => h)⟩
 ·rw [hpe]; exact (messageW_put v).1
 ·rw [hpe]; exact (messageW_put v).2
end Go.Proofs.YtdcopmkgmbiikaaGreatDoor
namespace Go.Proofs.YtdcopmkgmbiikaaGreatDoor
open Go.ChangeShapes Go.WideShapes Go.ChangeAt Go.RowKit Go.Deep
set_option maxRecDepth 100000
theorem nat_u32 {a : Int} (h : (Lit.int .u32 a).wf = true) : ∃ n : Nat, a = n ∧ n < 4294967296 := ⟨a.toNat, by have := bounds_u32 h; omega, by have := bounds_u32 h; omega⟩
theorem nat_u8 {a : Int} (h : (Lit.int .u8 a).wf = true) : ∃ n : Nat, a = n ∧ n < 256 := ⟨a.toNat, by have := bounds_u8 h; omega, by have := bounds_u8 h; omega⟩
theorem Tryz.zclU32 : Tryz.prog.cellsOf 22 = 1 := by kernel_rfl
theorem Tryz.zclU8 : Tryz.prog.cellsOf 5 = 1 := by kernel_rfl
theorem Tryz.zclF32 : Tryz.prog.cellsOf 57 = 1 := by kernel_rfl
theorem Tryz.zclBool : Tryz.prog.cellsOf 4 = 1 := by kernel_rfl
theorem Tryz.zclStr : Tryz.prog.cellsOf 9 = 1 := by kernel_rfl
theorem Tryz.zclFd : Tryz.prog.cellsOf 59 = 5 := by kernel_rfl
theorem Tryz.zclSm : Tryz.prog.cellsOf 161 = 4 := by kernel_rfl
theorem Tryz.zclId : Tryz.prog.cellsOf 27 = 2 := by kernel_rfl
theorem Tryz.zclSlf : Tryz.prog.cellsOf 28 = 1 := by kernel_rfl
theorem Tryz.zclSls : Tryz.prog.cellsOf 31 = 1 := by kernel_rfl
theorem Tryz.zclSlb : Tryz.prog.cellsOf 23 = 1 := by kernel_rfl
theorem Tryz.zclSlp : Tryz.prog.cellsOf 38 = 1 := by kernel_rfl
theorem Tryz.zclRq : Tryz.prog.cellsOf 30 = 10 := by kernel_rfl
theorem Tryz.zclAn : Tryz.prog.cellsOf 33 = 7 := by kernel_rfl
theorem Tryz.zclEv : Tryz.prog.cellsOf 35 = 13 := by kernel_rfl
theorem Tryz.zclHd : Tryz.prog.cellsOf 25 = 2 := by kernel_rfl
theorem Tryz.zclSg : Tryz.prog.cellsOf 37 = 4 := by kernel_rfl
theorem Tryz.zclPr : Tryz.prog.cellsOf 40 = 1 := by kernel_rfl
theorem Tryz.zclMs : Tryz.prog.cellsOf 42 = 35 := by kernel_rfl
theorem Tryz.zclAny : Tryz.prog.cellsOf 44 = 72 := by kernel_rfl
theorem trod_floatw {H : Type} {enc : TypeId × Value → H} {P : Program} {w : World} {base : Nat} {spare : Nat → Bool} {held : Bool} {fuel : Nat} {t : TypeId} {cs : List Value} {x : DataW H × List MemPlace} (ht : P.underlying t = some (.float .f32)) (h : DataW.trod enc P w base spare held fuel t cs = some x) : ∃ b, cs = [.float .f32 b] ∧ b < 4294967296 := by
 cases fuel with
 | zero => simp [DataW.trod] at h
 | succ n =>
  unfold DataW.trod at h
  rw [ht] at h
  split at h <;> simp_all [Lit.wf]
  rename_i k' b hk
  subst hk
  by_cases hh : k' = FloatKind.f32 ∧ decide (b < 4294967296) = true
  ·exact ⟨_, ⟨hh.1, rfl⟩, of_decide_eq_true hh.2⟩
  ·exact absurd ((if_neg hh).symm.trans h) (by simp)
theorem trod_boolw {H : Type} {enc : TypeId × Value → H} {P : Program} {w : World} {base : Nat} {spare : Nat → Bool} {held : Bool} {fuel : Nat} {t : TypeId} {cs : List Value} {x : DataW H × List MemPlace} (ht : P.underlying t = some .bool) (h : DataW.trod enc P w base spare held fuel t cs = some x) : ∃ b, cs = [.bool b] := by
 cases fuel with
 | zero => simp [DataW.trod] at h
 | succ n =>
  unfold DataW.trod at h
  rw [ht] at h
  split at h <;> simp_all
theorem max63 {n : Nat} (h : n ≤ maxLen) : n < 9223372036854775808 := Nat.lt_of_le_of_lt h (by decide)
theorem id_of_trod {H : Type} {enc : TypeId × Value → H} {W : World} {fuel : Nat} {cs : List Value} {x : DataW H × List MemPlace} (h : DataW.trod enc Tryz.prog W 0 (fun _ => true) true fuel 27 cs = some x) :
  ∃ c k : Nat, cs = [.int .u32 (c : Nat), .int .u32 (k : Nat)] ∧ c < 4294967296 ∧ k < 4294967296 := by
 obtain ⟨xs, n, _, rfl, hl, hlen, hf⟩ := DataW.trod_struct Tryz.underlying27 h
 rw [Tryz.zclId] at hl
 have h0 := hf 0 _ rfl
 have h1 := hf 1 _ rfl
 match cs, hl with
 | [c0, c1], _ =>
  match xs, hlen with
  | [y0, y1], _ =>
   simp [Tryz.zclU32] at h0 h1
   obtain ⟨a, e0, _, wa⟩ := DataW.trod_int Tryz.underlying22 h0
   obtain ⟨b, e1, _, wb⟩ := DataW.trod_int Tryz.underlying22 h1
   simp only [List.cons.injEq, and_true] at e0 e1
   subst e0 e1
   obtain ⟨a, rfl, ha⟩ := nat_u32 wa
   obtain ⟨b, rfl, hb⟩ := nat_u32 wb
   exact ⟨a, b, rfl, ha, hb⟩
theorem fld_of_trod {H : Type} {enc : TypeId × Value → H} {W : World} {fuel : Nat} {cs : List Value} {x : DataW H × List MemPlace} (h : DataW.trod enc Tryz.prog W 0 (fun _ => true) true fuel 59 cs = some x) (hk : Rows.uptoBulk x.1 ≤ 1048576) :
  ∃ s : Fld, s.sm ∧ cs = s.vs := by
 obtain ⟨xs, n, _, rfl, hl, hlen, hf⟩ := DataW.trod_struct Tryz.underlying59 h
 rw [Tryz.zclFd] at hl
 have h0 := hf 0 _ rfl
 have h1 := hf 1 _ rfl
 have h2 := hf 2 _ rfl
 have h3 := hf 3 _ rfl
 have h4 := hf 4 _ rfl
 match cs, hl with
 | [c0, c1, c2, c3, c4], _ =>
  match xs, hlen with
  | [y0, y1, y2, y3, y4], _ =>
   simp [Tryz.zclU8, Tryz.zclStr, Tryz.zclF32] at h0 h1 h2 h3 h4
   have k0 := bulk_in ([y0, y1, y2, y3, y4].map (·.1)) y0.1 (by simp)
   have k2 := bulk_in ([y0, y1, y2, y3, y4].map (·.1)) y2.1 (by simp)
   simp only [Rows.uptoBulk] at hk
   obtain ⟨a, e0, q0, wa⟩ := DataW.trod_string Tryz.underlying9 h0
   obtain ⟨b, e1, _, wb⟩ := DataW.trod_int Tryz.underlying5 h1
   obtain ⟨c, e2, q2, wc⟩ := DataW.trod_string Tryz.underlying9 h2
   obtain ⟨d, e3, wd⟩ := trod_floatw Tryz.underlying57 h3
   obtain ⟨e, e4, _, we⟩ := DataW.trod_int Tryz.underlying5 h4
   rw [show y0.1 = DataW.lit (.string a.data.toList) by rw [q0]] at k0
   rw [show y2.1 = DataW.lit (.string c.data.toList) by rw [q2]] at k2
   have ka : a.size + 1 ≤ 1048576 := Nat.le_trans (show a.size + 1 ≤ Rows.uptoBulkAll ([y0, y1, y2, y3, y4].map (·.1)) from k0) (by omega)
   have kc : c.size + 1 ≤ 1048576 := Nat.le_trans (show c.size + 1 ≤ Rows.uptoBulkAll ([y0, y1, y2, y3, y4].map (·.1)) from k2) (by omega)
   simp only [List.cons.injEq, and_true] at e0 e1 e2 e3 e4
   subst e0 e1 e2 e3 e4
   obtain ⟨b, rfl, hb⟩ := nat_u8 wb
   obtain ⟨e, rfl, he⟩ := nat_u8 we
   exact ⟨⟨a, b, c, d, e⟩, ⟨⟨max63 wa, hb, max63 wc, wd, he⟩, by show a.size ≤ 1048576; omega, by show c.size ≤ 1048576; omega⟩, rfl⟩
theorem su_of_trod {H : Type} {enc : TypeId × Value → H} {W : World} {fuel : Nat} {cs : List Value} {x : DataW H × List MemPlace} (h : DataW.trod enc Tryz.prog W 0 (fun _ => true) true fuel 161 cs = some x) :
  ∃ s : SuM, s.ok ∧ cs = s.vs := by
 obtain ⟨xs, n, _, rfl, hl, hlen, hf⟩ := DataW.trod_struct Tryz.underlying161 h
 rw [Tryz.zclSm] at hl
 have h0 := hf 0 _ rfl
 have h1 := hf 1 _ rfl
 have h2 := hf 2 _ rfl
 have h3 := hf 3 _ rfl
 match cs, hl with
 | [c0, c1, c2, c3], _ =>
  match xs, hlen with
  | [y0, y1, y2, y3], _ =>
   simp [Tryz.zclU32, Tryz.zclBool] at h0 h1 h2 h3
   obtain ⟨a, e0, _, wa⟩ := DataW.trod_int Tryz.underlying22 h0
   obtain ⟨b, e1, _, wb⟩ := DataW.trod_int Tryz.underlying22 h1
   obtain ⟨c, e2, _, wc⟩ := DataW.trod_int Tryz.underlying22 h2
   obtain ⟨d, e3⟩ := trod_boolw Tryz.underlying4 h3
   simp only [List.cons.injEq, and_true] at e0 e1 e2 e3
   subst e0 e1 e2 e3
   obtain ⟨a, rfl, ha⟩ := nat_u32 wa
   obtain ⟨b, rfl, hb⟩ := nat_u32 wb
   obtain ⟨c, rfl, hc⟩ := nat_u32 wc
   exact ⟨⟨a, b, c, d⟩, ⟨ha, hb, hc⟩, rfl⟩
theorem fdI_of_trod {H : Type} {enc : TypeId × Value → H} {W : World} {fuel : Nat} {v : Value} {x : DataW H × List MemPlace} (hf : DataW.trod enc Tryz.prog W 0 (fun _ => true) true fuel 28 [v] = some x) (hk : Rows.uptoBulk x.1 ≤ 1048576) :
  ∃ A : List Fld, FdI W v A ∧ (∀ f ∈ A, f.sm) ∧ A.length + 1 ≤ Rows.uptoBulk x.1 := by
 rcases open_slice Tryz.underlying28 hf with ⟨hcs, hx⟩ | ⟨a, len', cap', m, n, D, Pl, hcs, _, hl, hm, hmm, hx, hel⟩
 ·simp only [List.cons.injEq, and_true] at hcs
  subst hcs
  exact ⟨[], ⟨⟨none, 0, rfl, Nat.le_refl _, fun j f hj => by simp at hj⟩, by decide⟩, fun f hf => (by cases hf), bulk_pos _⟩
 ·simp only [List.cons.injEq, and_true] at hcs
  subst hcs
  subst hx
  simp only [if_true] at hmm
  subst hmm
  have hkb : ∀ i, i < len' → Rows.uptoBulk (D i) ≤ 1048576 := fun i hi => Nat.le_trans (bulk_in _ (D i) (List.mem_map.2 ⟨i, List.mem_range.2 hi, rfl⟩)) (by simp only [Rows.uptoBulk] at hk; omega)
  have hp : ∀ i, ∃ s : Fld, s.sm ∧ (i < len' → ∀ j, j < 5 → W.cell? ((a.add (i * 5)).add j) = s.vs[j]?) := fun i => by
   by_cases hi : i < len'
   ·obtain ⟨cs', h1, h2⟩ := hel i (Nat.lt_of_lt_of_le hi hl)
    rw [Tryz.zclFd] at h1
    obtain ⟨_, hlen, hcell⟩ := World.cells?_some h1
    obtain ⟨s, hs, rfl⟩ := fld_of_trod h2 (hkb i hi)
    exact ⟨s, hs, fun _ => hcell⟩
   ·obtain ⟨s, hs⟩ : ∃ s : Fld, s.sm := ⟨⟨⟨#[]⟩, 0, ⟨#[]⟩, 0, 0⟩, ⟨⟨by decide, by decide, by decide, by decide, by decide⟩, by decide, by decide⟩⟩
    exact ⟨s, hs, fun h => absurd h hi⟩
  obtain ⟨Q, hQb, hQ⟩ : ∃ Q : Nat → Fld, (∀ i, (Q i).sm) ∧ ∀ i, i < len' → ∀ j, j < 5 → W.cell? ((a.add (i * 5)).add j) = (Q i).vs[j]? := ⟨fun i => Classical.choose (hp i), fun i => (Classical.choose_spec (hp i)).1, fun i => (Classical.choose_spec (hp i)).2⟩
  have hbulk := bulk_len ((List.range len').map D)
  have hd : Rows.uptoBulkAll ((List.range len').map D) + 1 ≤ Rows.uptoBulk (DataW.slice ((List.range len').map D) ((List.range (m - len')).map fun j => D (len' + j)) : DataW H) := by
   simp only [Rows.uptoBulk]; omega
  have hll : ((List.range len').map Q).length = len' := by simp
  refine ⟨(List.range len').map Q, ⟨⟨some a, m, by rw [hll], by rw [hll]; exact hl, fun j f hj => ?_⟩, by rw [hll]; exact max63 (Nat.le_trans hl hm)⟩, fun f hf => ?_, by simp at hbulk ⊢; omega⟩
  ·have hjl : j < len' := by have := (List.getElem?_eq_some_iff.1 hj).1; rw [hll] at this; exact this
   obtain rfl : f = Q j := by simpa [hjl] using hj.symm
   have hc := hQ j (by omega)
   obtain ⟨u0, hu0⟩ : ∃ u, (Q 0).vs[0]? = some u := ⟨_, rfl⟩
   have h0 := (hQ 0 (by omega) 0 (by decide)).trans hu0
   obtain ⟨g, o, sp⟩ := a
   have hsp : sp = none := by simpa [Addr.add] using World.cell?_spot h0
   subst hsp
   have ad : ∀ o i, (⟨g, o, none⟩ : Addr).add i = ⟨g, o + i, none⟩ := fun o i => by unfold Addr.add; split <;> simp_all
   have hat : ∀ i, i < 5 → W.cell? ⟨g, o + j * 5 + i, none⟩ = (Q j).vs[i]? := fun i hi => by
    have := hc i hi
    rw [ad, ad] at this
    exact this
   exact ⟨(hQb j).ok, g, o, rfl, fun h => h, ⟨hat 0 (by decide), hat 1 (by decide), hat 2 (by decide), hat 3 (by decide), hat 4 (by decide)⟩⟩
  ·obtain ⟨i, _, rfl⟩ := List.mem_map.1 hf
   exact hQb i
theorem suI_of_trod {H : Type} {enc : TypeId × Value → H} {W : World} {fuel : Nat} {v : Value} {x : DataW H × List MemPlace} (hf : DataW.trod enc Tryz.prog W 0 (fun _ => true) true fuel 31 [v] = some x) (hk : Rows.uptoBulk x.1 ≤ 1048576) :
  ∃ A : List SuM, SuI W v A ∧ (∀ f ∈ A, f.ok) ∧ A.length + 1 ≤ Rows.uptoBulk x.1 := by
 rcases open_slice Tryz.underlying31 hf with ⟨hcs, hx⟩ | ⟨a, len', cap', m, n, D, Pl, hcs, _, hl, hm, hmm, hx, hel⟩
 ·simp only [List.cons.injEq, and_true] at hcs
  subst hcs
  exact ⟨[], ⟨⟨none, 0, rfl, Nat.le_refl _, fun j f hj => by simp at hj⟩, by decide⟩, fun f hf => (by cases hf), bulk_pos _⟩
 ·simp only [List.cons.injEq, and_true] at hcs
  subst hcs
  subst hx
  simp only [if_true] at hmm
  subst hmm
  have hkb : ∀ i, i < len' → Rows.uptoBulk (D i) ≤ 1048576 := fun i hi => Nat.le_trans (bulk_in _ (D i) (List.mem_map.2 ⟨i, List.mem_range.2 hi, rfl⟩)) (by simp only [Rows.uptoBulk] at hk; omega)
  have hp : ∀ i, ∃ s : SuM, s.ok ∧ (i < len' → ∀ j, j < 4 → W.cell? ((a.add (i * 4)).add j) = s.vs[j]?) := fun i => by
   by_cases hi : i < len'
   ·obtain ⟨cs', h1, h2⟩ := hel i (Nat.lt_of_lt_of_le hi hl)
    rw [Tryz.zclSm] at h1
    obtain ⟨_, hlen, hcell⟩ := World.cells?_some h1
    obtain ⟨s, hs, rfl⟩ := su_of_trod h2  
    exact ⟨s, hs, fun _ => hcell⟩
   ·obtain ⟨s, hs⟩ : ∃ s : SuM, s.ok := ⟨⟨0, 0, 0, false⟩, ⟨by decide, by decide, by decide⟩⟩
    exact ⟨s, hs, fun h => absurd h hi⟩
  obtain ⟨Q, hQb, hQ⟩ : ∃ Q : Nat → SuM, (∀ i, (Q i).ok) ∧ ∀ i, i < len' → ∀ j, j < 4 → W.cell? ((a.add (i * 4)).add j) = (Q i).vs[j]? := ⟨fun i => Classical.choose (hp i), fun i => (Classical.choose_spec (hp i)).1, fun i => (Classical.choose_spec (hp i)).2⟩
  have hbulk := bulk_len ((List.range len').map D)
  have hd : Rows.uptoBulkAll ((List.range len').map D) + 1 ≤ Rows.uptoBulk (DataW.slice ((List.range len').map D) ((List.range (m - len')).map fun j => D (len' + j)) : DataW H) := by
   simp only [Rows.uptoBulk]; omega
  have hll : ((List.range len').map Q).length = len' := by simp
  refine ⟨(List.range len').map Q, ⟨⟨some a, m, by rw [hll], by rw [hll]; exact hl, fun j f hj => ?_⟩, by rw [hll]; exact max63 (Nat.le_trans hl hm)⟩, fun f hf => ?_, by simp at hbulk ⊢; omega⟩
  ·have hjl : j < len' := by have := (List.getElem?_eq_some_iff.1 hj).1; rw [hll] at this; exact this
   obtain rfl : f = Q j := by simpa [hjl] using hj.symm
   have hc := hQ j (by omega)
   obtain ⟨u0, hu0⟩ : ∃ u, (Q 0).vs[0]? = some u := ⟨_, rfl⟩
   have h0 := (hQ 0 (by omega) 0 (by decide)).trans hu0
   obtain ⟨g, o, sp⟩ := a
   have hsp : sp = none := by simpa [Addr.add] using World.cell?_spot h0
   subst hsp
   have ad : ∀ o i, (⟨g, o, none⟩ : Addr).add i = ⟨g, o + i, none⟩ := fun o i => by unfold Addr.add; split <;> simp_all
   have hat : ∀ i, i < 4 → W.cell? ⟨g, o + j * 4 + i, none⟩ = (Q j).vs[i]? := fun i hi => by
    have := hc i hi
    rw [ad, ad] at this
    exact this
   exact ⟨hQb j, g, o, rfl, fun h => h, ⟨hat 0 (by decide), hat 1 (by decide), hat 2 (by decide), hat 3 (by decide)⟩⟩
  ·obtain ⟨i, _, rfl⟩ := List.mem_map.1 hf
   exact hQb i
set_option maxRecDepth 100000
theorem cell_slice_lt {W : World} {base : Nat} {u : TypeId} {g o n c : Nat} (h : Cell.okWide Tryz.prog W .any base u (.slice (some ⟨g, o, none⟩) n c)) : g < W.heap.size := by
 have hok : Cell.ok Tryz.prog W .any base u (.slice (some ⟨g, o, none⟩) n c) := by
  unfold Cell.okWide at h
  split at h <;> first | exact h | simp_all
 unfold Cell.ok at hok
 split at hok <;> first | exact hok.elim | skip
 all_goals first | (rename_i he; cases he; done) | skip
 rename_i e a len cap _ he
 injection he with e1 e2 e3
 injection e1 with e1
 subst e1
 obtain ⟨_, _, _, _, row, cells, hs, _⟩ := hok
 rcases Nat.lt_or_ge g W.heap.size with hx | hx
 ·exact hx
 ·simp [World.shape?, Array.getElem?_eq_none hx] at hs
theorem okWide_row {W : World} {base : Nat} {t : TypeId} {fs : Array Field} {v : Value} (ht : Tryz.prog.underlying t = some (.struct fs)) (h : Value.okWide Tryz.prog W .any base t v) : ∃ cs, v = .agg cs ∧ cs.size = Tryz.prog.cellsOf t ∧ ∀ (i : Nat) g o n c, cs[i]? = some (.slice (some ⟨g, o, none⟩) n c) → g < W.heap.size := by
 simp only [Value.okWide, ht] at h
 obtain ⟨cs, h1, h2, ts, _, _, h3⟩ := h
 refine ⟨cs, h1, h2, fun i g o n c hi => ?_⟩
 obtain ⟨u, _, hu⟩ := h3 i _ hi
 exact cell_slice_lt hu
theorem sl_of_trod {H : Type} {enc : TypeId × Value → H} {W : World} {fuel : Nat} {v : Value} {d : DataW H} {p : List MemPlace} (hf : DataW.trod enc Tryz.prog W 0 (fun _ => true) true fuel 23 [v] = some (d, p)) (hv : ∀ g o n c, v = .slice (some ⟨g, o, none⟩) n c → g < W.heap.size) (hk : Rows.uptoBulk d ≤ 1048576) :
  ∃ l : List Nat, SlI W v l ∧ l.length ≤ 1048576 := by
 obtain ⟨l, h1, _, _, _, h5⟩ := src_of_trod hf
 exact ⟨l, ⟨h1, fun g o m c e => hv g o m c e, by omega⟩, by omega⟩
theorem rq_of_trod {H : Type} {enc : TypeId × Value → H} {W : World} {fuel : Nat} {cs : List Value} {x : DataW H × List MemPlace} (h : DataW.trod enc Tryz.prog W 0 (fun _ => true) true fuel 30 cs = some x) (hk : Rows.uptoBulk x.1 ≤ 1048576) :
  ∃ (r : RqM) (y : Value), cs = (r.vals y).toList ∧ r.ok ∧ FdI W y r.fs ∧ (∀ f ∈ r.fs, f.sm) ∧ r.fs.length ≤ 1048576 ∧ r.rs.size ≤ 1048576 := by
 obtain ⟨xs, n, _, rfl, hl, hlen, hf⟩ := DataW.trod_struct Tryz.underlying30 h
 rw [Tryz.zclRq] at hl
 have h0 := hf 0 _ rfl
 have h1 := hf 1 _ rfl
 have h2 := hf 2 _ rfl
 have h3 := hf 3 _ rfl
 have h4 := hf 4 _ rfl
 have h5 := hf 5 _ rfl
 have h6 := hf 6 _ rfl
 have h7 := hf 7 _ rfl
 have h8 := hf 8 _ rfl
 match cs, hl with
 | [c0, c1, c2, c3, c4, c5, c6, c7, c8, c9], _ =>
  match xs, hlen with
  | [y0, y1, y2, y3, y4, y5, y6, y7, y8], _ =>
   simp [Tryz.zclU32, Tryz.zclU8, Tryz.zclId, Tryz.zclSlf, Tryz.zclStr] at h0 h1 h2 h3 h4 h5 h6 h7 h8
   obtain ⟨cl, nu, e0, b0, b1⟩ := id_of_trod h0
   obtain ⟨ac, e1, q1, w1⟩ := DataW.trod_int Tryz.underlying22 h1
   obtain ⟨op, e2, q2, w2⟩ := DataW.trod_int Tryz.underlying5 h2
   obtain ⟨rc, e3, q3, w3⟩ := DataW.trod_int Tryz.underlying22 h3
   obtain ⟨ve, e4, q4, w4⟩ := DataW.trod_int Tryz.underlying22 h4
   obtain ⟨wa, e5, q5, w5⟩ := DataW.trod_int Tryz.underlying22 h5
   obtain ⟨ow, e6, q6, w6⟩ := DataW.trod_int Tryz.underlying22 h6
   have k7 := bulk_in ([y0, y1, y2, y3, y4, y5, y6, y7, y8].map (·.1)) y7.1 (by simp)
   have k8 := bulk_in ([y0, y1, y2, y3, y4, y5, y6, y7, y8].map (·.1)) y8.1 (by simp)
   simp only [Rows.uptoBulk] at hk
   obtain ⟨F, hF, hFb, bF⟩ := fdI_of_trod h7 (by omega)
   obtain ⟨rs, e8, q8, b8⟩ := DataW.trod_string Tryz.underlying9 h8
   rw [show y8.1 = DataW.lit (.string rs.data.toList) by rw [q8]] at k8
   have kr : rs.size + 1 ≤ 1048576 := Nat.le_trans (show rs.size + 1 ≤ Rows.uptoBulkAll ([y0, y1, y2, y3, y4, y5, y6, y7, y8].map (·.1)) from k8) (by omega)
   simp only [List.cons.injEq, and_true] at e0 e1 e2 e3 e4 e5 e6 e8
   obtain ⟨rfl, rfl⟩ := e0
   subst e1 e2 e3 e4 e5 e6 e8
   obtain ⟨ac, rfl, c2⟩ := nat_u32 w1
   obtain ⟨op, rfl, c3⟩ := nat_u8 w2
   obtain ⟨rc, rfl, c4⟩ := nat_u32 w3
   obtain ⟨ve, rfl, c5⟩ := nat_u32 w4
   obtain ⟨wa, rfl, c6⟩ := nat_u32 w5
   obtain ⟨ow, rfl, c7⟩ := nat_u32 w6
   exact ⟨⟨cl, nu, ac, op, rc, ve, wa, ow, F, rs⟩, c8, rfl, ⟨b0, b1, c2, c3, c4, c5, c6, c7, max63 b8⟩, hF, hFb, by show F.length ≤ 1048576; omega, by show rs.size ≤ 1048576; omega⟩
theorem an_of_trod {H : Type} {enc : TypeId × Value → H} {W : World} {fuel : Nat} {cs : List Value} {x : DataW H × List MemPlace} (h : DataW.trod enc Tryz.prog W 0 (fun _ => true) true fuel 33 cs = some x) (hk : Rows.uptoBulk x.1 ≤ 1048576) :
  ∃ (r : AnM) (y z : Value), cs = (r.vals y z).toList ∧ r.ok ∧ FdI W y r.fs ∧ (∀ f ∈ r.fs, f.sm) ∧ SuI W z r.hi ∧ (∀ f ∈ r.hi, f.ok) ∧ r.fs.length ≤ 1048576 ∧ r.hi.length ≤ 1048576 := by
 obtain ⟨xs, n, _, rfl, hl, hlen, hf⟩ := DataW.trod_struct Tryz.underlying33 h
 rw [Tryz.zclAn] at hl
 have h0 := hf 0 _ rfl
 have h1 := hf 1 _ rfl
 have h2 := hf 2 _ rfl
 have h3 := hf 3 _ rfl
 have h4 := hf 4 _ rfl
 have h5 := hf 5 _ rfl
 match cs, hl with
 | [c0, c1, c2, c3, c4, c5, c6], _ =>
  match xs, hlen with
  | [y0, y1, y2, y3, y4, y5], _ =>
   simp [Tryz.zclU32, Tryz.zclU8, Tryz.zclId, Tryz.zclSlf, Tryz.zclSls] at h0 h1 h2 h3 h4 h5
   obtain ⟨cl, nu, e0, b0, b1⟩ := id_of_trod h0
   obtain ⟨co, e1, q1, w1⟩ := DataW.trod_int Tryz.underlying5 h1
   obtain ⟨rc, e2, q2, w2⟩ := DataW.trod_int Tryz.underlying22 h2
   obtain ⟨ve, e3, q3, w3⟩ := DataW.trod_int Tryz.underlying22 h3
   have k4 := bulk_in ([y0, y1, y2, y3, y4, y5].map (·.1)) y4.1 (by simp)
   have k5 := bulk_in ([y0, y1, y2, y3, y4, y5].map (·.1)) y5.1 (by simp)
   simp only [Rows.uptoBulk] at hk
   obtain ⟨F, hF, hFb, bF⟩ := fdI_of_trod h4 (by omega)
   obtain ⟨K, hK, hKb, bK⟩ := suI_of_trod h5 (by omega)
   simp only [List.cons.injEq, and_true] at e0 e1 e2 e3
   obtain ⟨rfl, rfl⟩ := e0
   subst e1 e2 e3
   obtain ⟨co, rfl, c1⟩ := nat_u8 w1
   obtain ⟨rc, rfl, c2⟩ := nat_u32 w2
   obtain ⟨ve, rfl, c3⟩ := nat_u32 w3
   exact ⟨⟨cl, nu, co, rc, ve, F, K⟩, c5, c6, rfl, ⟨b0, b1, c1, c2, c3⟩, hF, hFb, hK, hKb, by show F.length ≤ 1048576; omega, by show K.length ≤ 1048576; omega⟩
theorem ev_of_trod {H : Type} {enc : TypeId × Value → H} {W : World} {fuel : Nat} {cs : List Value} {x : DataW H × List MemPlace} (h : DataW.trod enc Tryz.prog W 0 (fun _ => true) true fuel 35 cs = some x) (hlt : ∀ (i : Nat) g o n c, cs[i]? = some (.slice (some ⟨g, o, none⟩) n c) → g < W.heap.size) (hk : Rows.uptoBulk x.1 ≤ 1048576) :
  ∃ (r : EvM) (y z : Value), cs = (r.vals y z).toList ∧ r.ok ∧ FdI W y r.rq.fs ∧ (∀ f ∈ r.rq.fs, f.sm) ∧ SlI W z r.dg ∧ r.dg.length ≤ 1048576 ∧ r.rq.fs.length ≤ 1048576 ∧ r.rq.rs.size ≤ 1048576 := by
 obtain ⟨xs, n, _, rfl, hl, hlen, hf⟩ := DataW.trod_struct Tryz.underlying35 h
 rw [Tryz.zclEv] at hl
 have h0 := hf 0 _ rfl
 have h1 := hf 1 _ rfl
 have h2 := hf 2 _ rfl
 have h3 := hf 3 _ rfl
 match cs, hl with
 | [c0, c1, c2, c3, c4, c5, c6, c7, c8, c9, c10, c11, c12], _ =>
  match xs, hlen with
  | [y0, y1, y2, y3], _ =>
   simp [Tryz.zclU32, Tryz.zclU8, Tryz.zclRq, Tryz.zclSlb] at h0 h1 h2 h3
   obtain ⟨pl, e0, q0, w0⟩ := DataW.trod_int Tryz.underlying22 h0
   have k1 := bulk_in ([y0, y1, y2, y3].map (·.1)) y1.1 (by simp)
   obtain ⟨r, y, e1, hr, hF, hFb, hFl, hFr⟩ := rq_of_trod h1 (by simp only [Rows.uptoBulk] at hk; omega)
   obtain ⟨co, e2, q2, w2⟩ := DataW.trod_int Tryz.underlying5 h2
   have k3 := bulk_in ([y0, y1, y2, y3].map (·.1)) y3.1 (by simp)
   obtain ⟨d, hd, hdl⟩ := sl_of_trod (d := y3.1) (p := y3.2) h3 (fun g o n c e => hlt 12 g o n c (by rw [← e]; rfl)) (by simp only [Rows.uptoBulk] at hk; omega)
   simp only [RqM.vals, List.cons.injEq, and_true] at e0 e1 e2
   obtain ⟨rfl, rfl, rfl, rfl, rfl, rfl, rfl, rfl, rfl, rfl⟩ := e1
   subst e0 e2
   obtain ⟨pl, rfl, b0⟩ := nat_u32 w0
   obtain ⟨co, rfl, b2⟩ := nat_u8 w2
   exact ⟨⟨pl, r, co, d⟩, _, c12, rfl, ⟨b0, hr, b2⟩, hF, hFb, hd, hdl, hFl, hFr⟩
set_option maxRecDepth 100000
theorem pcl_of_trod {H : Type} {enc : TypeId × Value → H} {W : World} {fuel : Nat} {v : Value} {x : DataW H × List MemPlace} (hf : DataW.trod enc Tryz.prog W 0 (fun _ => true) true fuel 38 [v] = some x) (hk : Rows.uptoBulk x.1 ≤ 1048576) :
  ∃ (xo : Option Addr) (xc : Nat) (ps : List (List Nat)), v = .slice xo ps.length xc ∧ PcL W xo xc ps ∧ (∀ p ∈ ps, p.length ≤ 1048576) ∧ ps.length ≤ 1048576 := by
 rcases open_slice1 Tryz.underlying38 Tryz.zclSlb hf with ⟨hcs, hx⟩ | ⟨a, len', cap', m, n, V, D, Pl, hcs, _, hl, hm, hmm, hx, hel⟩
 ·simp only [List.cons.injEq, and_true] at hcs
  subst hcs
  exact ⟨none, 0, [], rfl, ⟨Nat.le_refl _, by decide, fun j p hj => by simp at hj⟩, fun p hp => (by cases hp), by decide⟩
 ·simp only [List.cons.injEq, and_true] at hcs
  subst hcs
  subst hx
  simp only [if_true] at hmm
  subst hmm
  have hd : Rows.uptoBulkAll ((List.range len').map D) + 1 ≤ Rows.uptoBulk (DataW.slice ((List.range len').map D) ((List.range (m - len')).map fun j => D (len' + j)) : DataW H) := by
   simp only [Rows.uptoBulk]; omega
  simp only at hk
  have hp : ∀ i, ∃ l : List Nat, i < len' → Src W (V i) l ∧ (l = [] ∨ ∀ g o n c, V i = .slice (some ⟨g, o, none⟩) n c → g < W.heap.size) ∧ l.length ≤ 1048576 := fun i => by
   by_cases hi : i < len'
   ·obtain ⟨h1, h2⟩ := hel i (by omega)
    obtain ⟨l, k1, _, _, k4, k5⟩ := src_of_trod (d := D i) (p := Pl i) h2
    have h3 := bulk_in ((List.range len').map D) (D i) (List.mem_map.2 ⟨i, List.mem_range.2 hi, rfl⟩)
    exact ⟨l, fun _ => ⟨k1, k4, by omega⟩⟩
   ·exact ⟨[], fun h => absurd h hi⟩
  obtain ⟨L, hL⟩ : ∃ L : Nat → List Nat, ∀ i, i < len' → Src W (V i) (L i) ∧ (L i = [] ∨ ∀ g o n c, V i = .slice (some ⟨g, o, none⟩) n c → g < W.heap.size) ∧ (L i).length ≤ 1048576 := ⟨fun i => Classical.choose (hp i), fun i => Classical.choose_spec (hp i)⟩
  have hll : ((List.range len').map L).length = len' := by simp
  refine ⟨some a, m, (List.range len').map L, by rw [hll], ⟨by rw [hll]; exact hl, by rw [hll]; exact max63 (Nat.le_trans hl hm), fun j p hj => ?_⟩, fun p hp => ?_, by rw [hll]; have hbl := bulk_len ((List.range len').map D); rw [List.length_map, List.length_range] at hbl; omega⟩
  ·have hjl : j < len' := by have := (List.getElem?_eq_some_iff.1 hj).1; rw [hll] at this; exact this
   obtain rfl : p = L j := by simpa [hjl] using hj.symm
   have h0 := (hel 0 (by omega)).1
   have hc := (hel j (by omega)).1
   obtain ⟨g, o, sp⟩ := a
   have hsp : sp = none := by simpa [Addr.add] using World.cell?_spot h0
   subst hsp
   have ad : ∀ o i, (⟨g, o, none⟩ : Addr).add i = ⟨g, o + i, none⟩ := fun o i => by unfold Addr.add; split <;> simp_all
   rw [ad] at hc
   obtain ⟨k1, k2, k3⟩ := hL j hjl
   exact ⟨g, o, V j, rfl, hc, k1, k2, by omega⟩
  ·obtain ⟨i, hi, rfl⟩ := List.mem_map.1 hp
   exact (hL i (List.mem_range.1 hi)).2.2
theorem hd_of_trod {H : Type} {enc : TypeId × Value → H} {W : World} {fuel : Nat} {cs : List Value} {x : DataW H × List MemPlace} (h : DataW.trod enc Tryz.prog W 0 (fun _ => true) true fuel 25 cs = some x) (hlt : ∀ (i : Nat) g o n c, cs[i]? = some (.slice (some ⟨g, o, none⟩) n c) → g < W.heap.size) (hk : Rows.uptoBulk x.1 ≤ 1048576) :
  ∃ (n : Nat) (r : List Nat) (y : Value), cs = [.int .u32 (n : Nat), y] ∧ n < 4294967296 ∧ SlI W y r ∧ r.length ≤ 1048576 := by
 obtain ⟨xs, n, _, rfl, hl, hlen, hf⟩ := DataW.trod_struct Tryz.underlying25 h
 rw [Tryz.zclHd] at hl
 have h0 := hf 0 _ rfl
 have h1 := hf 1 _ rfl
 match cs, hl with
 | [c0, c1], _ =>
  match xs, hlen with
  | [y0, y1], _ =>
   simp [Tryz.zclU32, Tryz.zclSlb] at h0 h1
   obtain ⟨n, e0, q0, w0⟩ := DataW.trod_int Tryz.underlying22 h0
   have k1 := bulk_in ([y0, y1].map (·.1)) y1.1 (by simp)
   obtain ⟨r, hr, hrl⟩ := sl_of_trod (d := y1.1) (p := y1.2) h1 (fun g o n c e => hlt 1 g o n c (by rw [← e]; rfl)) (by simp only [Rows.uptoBulk] at hk; omega)
   simp only [List.cons.injEq, and_true] at e0
   subst e0
   obtain ⟨n, rfl, b0⟩ := nat_u32 w0
   exact ⟨n, r, c1, rfl, b0, hr, hrl⟩
theorem sg_of_trod {H : Type} {enc : TypeId × Value → H} {W : World} {fuel : Nat} {cs : List Value} {x : DataW H × List MemPlace} (h : DataW.trod enc Tryz.prog W 0 (fun _ => true) true fuel 37 cs = some x) (hlt : ∀ (i : Nat) g o n c, cs[i]? = some (.slice (some ⟨g, o, none⟩) n c) → g < W.heap.size) (hk : Rows.uptoBulk x.1 ≤ 1048576) :
  ∃ (n : Nat) (r : List Nat) (k : Nat) (s : List Nat) (y z : Value), cs = [.int .u32 (n : Nat), y, .int .u32 (k : Nat), z] ∧ n < 4294967296 ∧ k < 4294967296 ∧ SlI W y r ∧ r.length ≤ 1048576 ∧ SlI W z s ∧ s.length ≤ 1048576 := by
 obtain ⟨xs, n, _, rfl, hl, hlen, hf⟩ := DataW.trod_struct Tryz.underlying37 h
 rw [Tryz.zclSg] at hl
 have h0 := hf 0 _ rfl
 have h1 := hf 1 _ rfl
 have h2 := hf 2 _ rfl
 match cs, hl with
 | [c0, c1, c2, c3], _ =>
  match xs, hlen with
  | [y0, y1, y2], _ =>
   simp [Tryz.zclU32, Tryz.zclHd, Tryz.zclSlb] at h0 h1 h2
   have k0 := bulk_in ([y0, y1, y2].map (·.1)) y0.1 (by simp)
   have k2 := bulk_in ([y0, y1, y2].map (·.1)) y2.1 (by simp)
   obtain ⟨n, r, y, e0, b0, hr, hrl⟩ := hd_of_trod h0 (fun i g o n c e => by
    match i with
    | 0 => exact hlt 0 g o n c e
    | 1 => exact hlt 1 g o n c e
    | i + 2 => simp at e) (by simp only [Rows.uptoBulk] at hk; omega)
   obtain ⟨k, e1, q1, w1⟩ := DataW.trod_int Tryz.underlying22 h1
   obtain ⟨s, hs, hsl⟩ := sl_of_trod (d := y2.1) (p := y2.2) h2 (fun g o n c e => hlt 3 g o n c (by rw [← e]; rfl)) (by simp only [Rows.uptoBulk] at hk; omega)
   simp only [List.cons.injEq, and_true] at e0 e1
   obtain ⟨rfl, rfl⟩ := e0
   subst e1
   obtain ⟨k, rfl, b1⟩ := nat_u32 w1
   exact ⟨n, r, k, s, _, c3, rfl, b0, b1, hr, hrl, hs, hsl⟩
theorem pr_of_trod {H : Type} {enc : TypeId × Value → H} {W : World} {fuel : Nat} {cs : List Value} {x : DataW H × List MemPlace} (h : DataW.trod enc Tryz.prog W 0 (fun _ => true) true fuel 40 cs = some x) (hk : Rows.uptoBulk x.1 ≤ 1048576) :
  ∃ (xo : Option Addr) (xc : Nat) (ps : List (List Nat)), cs = [.slice xo ps.length xc] ∧ PcL W xo xc ps ∧ (∀ p ∈ ps, p.length ≤ 1048576) ∧ ps.length ≤ 1048576 := by
 obtain ⟨xs, n, _, rfl, hl, hlen, hf⟩ := DataW.trod_struct Tryz.underlying40 h
 rw [Tryz.zclPr] at hl
 have h0 := hf 0 _ rfl
 match cs, hl with
 | [c0], _ =>
  match xs, hlen with
  | [y0], _ =>
   simp [Tryz.zclSlp] at h0
   have k0 := bulk_in ([y0].map (·.1)) y0.1 (by simp)
   obtain ⟨xo, xc, ps, rfl, h1, h2, h3⟩ := pcl_of_trod h0 (by simp only [Rows.uptoBulk] at hk; omega)
   exact ⟨xo, xc, ps, rfl, h1, h2, h3⟩
theorem pieceB {cs l : List Value} {o n : Nat} (h : (cs.drop o).take n = l) (hl : l.length ≤ n) : ∀ (j : Nat) q, l[j]? = some q → cs[o + j]? = some q := fun j q hj => by
 have hlt := (List.getElem?_eq_some_iff.1 hj).1
 rw [← h, List.getElem?_take_of_lt (by omega), List.getElem?_drop] at hj
 exact hj
theorem piece_lt {W : World} {cs : List Value} {o n : Nat} (hlt : ∀ (i : Nat) g o n c, cs[i]? = some (.slice (some ⟨g, o, none⟩) n c) → g < W.heap.size) : ∀ (i : Nat) g p m c, ((cs.drop o).take n)[i]? = some (.slice (some ⟨g, p, none⟩) m c) → g < W.heap.size := fun i g p m c h => by
 have hi : i < n := by have := (List.getElem?_eq_some_iff.1 h).1; rw [List.length_take] at this; omega
 rw [List.getElem?_take_of_lt hi, List.getElem?_drop] at h
 exact hlt _ g p m c h
theorem ms_of_trod {H : Type} {enc : TypeId × Value → H} {W : World} {fuel : Nat} {cs : List Value} {x : DataW H × List MemPlace} (h : DataW.trod enc Tryz.prog W 0 (fun _ => true) true fuel 42 cs = some x) (hlt : ∀ (i : Nat) g o n c, cs[i]? = some (.slice (some ⟨g, o, none⟩) n c) → g < W.heap.size) (hk : Rows.uptoBulk x.1 ≤ 1048576) :
  ∃ (v : MsM) (x0 x1 x2 x3 x4 : Value), cs = (v.vals x0 x1 x2 x3 x4).toList ∧ v.sm ∧ MsI W v x0 x1 x2 x3 x4 := by
 obtain ⟨xs, n, _, rfl, hl, hlen, hf⟩ := DataW.trod_struct Tryz.underlying42 h
 rw [Tryz.zclMs] at hl
 have h0 := hf 0 _ rfl
 have h1 := hf 1 _ rfl
 have h2 := hf 2 _ rfl
 have h3 := hf 3 _ rfl
 have h4 := hf 4 _ rfl
 have h5 := hf 5 _ rfl
 have h6 := hf 6 _ rfl
 match xs, hlen with
 | [y0, y1, y2, y3, y4, y5, y6], _ =>
  simp [Tryz.zclU32, Tryz.zclU8, Tryz.zclId, Tryz.zclRq, Tryz.zclAn, Tryz.zclEv, -List.drop_one] at h0 h1 h2 h3 h4 h5 h6
  change DataW.trod _ _ _ _ _ _ _ _ ((cs.drop 0).take 1) = _ at h0
  change DataW.trod _ _ _ _ _ _ _ _ ((cs.drop 1).take 10) = _ at h1
  change DataW.trod _ _ _ _ _ _ _ _ ((cs.drop 11).take 2) = _ at h2
  change DataW.trod _ _ _ _ _ _ _ _ ((cs.drop 13).take 7) = _ at h3
  change DataW.trod _ _ _ _ _ _ _ _ ((cs.drop 20).take 1) = _ at h4
  change DataW.trod _ _ _ _ _ _ _ _ ((cs.drop 21).take 13) = _ at h5
  change DataW.trod _ _ _ _ _ _ _ _ ((cs.drop 34).take 1) = _ at h6
  have k1 := bulk_in ([y0, y1, y2, y3, y4, y5, y6].map (·.1)) y1.1 (by simp)
  have k3 := bulk_in ([y0, y1, y2, y3, y4, y5, y6].map (·.1)) y3.1 (by simp)
  have k5 := bulk_in ([y0, y1, y2, y3, y4, y5, y6].map (·.1)) y5.1 (by simp)
  obtain ⟨ki, e0, _, w0⟩ := DataW.trod_int Tryz.underlying5 h0
  obtain ⟨r, x0, e1, r1, r2, r3, r4, r5⟩ := rq_of_trod h1 (by simp only [Rows.uptoBulk] at hk; omega)
  obtain ⟨icl, inu, e2, b0, b1⟩ := id_of_trod h2
  obtain ⟨a, x1, x2, e3, a1, a2, a3, a4, a5, a6, a7⟩ := an_of_trod h3 (by simp only [Rows.uptoBulk] at hk; omega)
  obtain ⟨co, e4, _, w4⟩ := DataW.trod_int Tryz.underlying5 h4
  obtain ⟨ev, x3, x4, e5, v1, v2, v3, v4, v5, v6, v7⟩ := ev_of_trod h5 (piece_lt hlt) (by simp only [Rows.uptoBulk] at hk; omega)
  obtain ⟨le, e6, _, w6⟩ := DataW.trod_int Tryz.underlying22 h6
  obtain ⟨ki, rfl, bk⟩ := nat_u8 w0
  obtain ⟨co, rfl, bc⟩ := nat_u8 w4
  obtain ⟨le, rfl, bl⟩ := nat_u32 w6
  refine ⟨⟨ki, r, icl, inu, a, co, ev, le⟩, x0, x1, x2, x3, x4, ?_, ⟨⟨bk, r1, b0, b1, a1, bc, v1, bl⟩, r3, a3, v3, r4, a6, a7, v6, r5, v7, a5, v5⟩, ⟨r2, a2, a4, v2, v4⟩⟩
  have es : cs = (cs.drop 0).take 1 ++ ((cs.drop 1).take 10 ++ ((cs.drop 11).take 2 ++ ((cs.drop 13).take 7 ++ ((cs.drop 20).take 1 ++ ((cs.drop 21).take 13 ++ (cs.drop 34).take 1))))) := by
   have e34 : (cs.drop 34).take 1 = cs.drop 34 := List.take_of_length_le (by rw [List.length_drop, hl]; decide)
   rw [e34, ← List.drop_drop (i := 13) (j := 21), List.take_append_drop, ← List.drop_drop (i := 1) (j := 20), List.take_append_drop, ← List.drop_drop (i := 7) (j := 13), List.take_append_drop, ← List.drop_drop (i := 2) (j := 11), List.take_append_drop, ← List.drop_drop (i := 10) (j := 1), List.take_append_drop, ← List.drop_drop (i := 1) (j := 0), List.take_append_drop, List.drop_zero]
  rw [es, e0, e1, e2, e3, e4, e5, e6]
  rfl
end Go.Proofs.YtdcopmkgmbiikaaGreatDoor
namespace Go.Proofs.YtdcopmkgmbiikaaGreatDoor
open Go.RowKit
set_option linter.unusedSimpArgs false
theorem PutsC.mono {k : Nat} {va : List Value} {E : Nat → Addr} {w w' : World} {s : Wq} {LP : List PT} (h : PutsC k va E w s LP) (hf : Fr (fun _ => False) w w') : PutsC k va E w' s LP :=
 ⟨fun W a b c => h.put W a b (hf.trans c (fun _ _ h => h)), fun W c => h.parts W (hf.trans c (fun _ _ h => h)), h.out, h.f, h.kinds, h.bnd, h.len⟩
set_option maxRecDepth 100000 in
set_option maxHeartbeats 8000000 in
theorem wputs_any (z : Int) (va : List Value) (E : Nat → Addr) (w : World) (hg : G7 w E) (hw : 9 ≤ w.heap.size) (hva : va.length = 72) (hB : ∀ k, 1 ≤ k → k ≤ 7 → ∃ s LP, PutsC k va E w s LP) :
  Calls Tryz.prog 4 #[.int .i64 z, .agg va.toArray] w fun e w' => e = .returned (.bool true) ∧ Fr (fun _ => False) w w' := by
 have HG : Hid (∀ V, Fr (fun _ => False) w V → G7 V E ∧ 9 ≤ V.heap.size) := hid (fun V hf => ⟨hg.fr hf (fun _ h => h.elim), Nat.le_trans hw hf.size⟩)
 have HX : Hid (∀ V, Fr (fun _ => False) (w.alloc (.cells va.toArray 44)) V → V.rangeAt w.heap.size 0 va) := hid (fun V hf => rOB ((hf.block w.heap.size (by simp) (fun h => h)).trans (heap_alloc_new _ _)))
 have HZ : Hid ((Tryz.prog.info? 44).map (·.size) = some va.length) := hid (by rw [hva]; exact Tryz.sizeAny)
 have hbx := box1 w (.cells va.toArray 44)
 have HB := hid hB
 have HL := hid hva
 clear hg hw hB hva
 go_enter Tryz.func4, Tryz.ntmps4
 go_upto_region 1 with fail
 obtain ⟨W1, hW1⟩ : ∃ W1, w.alloc (.cells va.toArray 44) = W1 := ⟨_, rfl⟩
 rw [hW1] at HX hbx
 rw [hW1]
 clear hW1
 have HF1 := hid hbx
 clear hbx
 go_wp2_with fail
 refine wp_region_held_drew (S := (fun V : World => Fr (fun _ => False) W1 V)) (by kernel_rfl) ((Fr.refl _ _).drew) (fun hHeld => ?_)
 refine wpAnyH_ready (rs := [0]) (by kernel_rfl) (by simp) (AllReadyH.cons rfl (fun K hK => ?_) AllReadyH.nil)
 go_simp
 have hd : Fr (fun _ => False) w W1.drew := (uh HF1).drew
 refine (awake7 E W1.drew ((uh HG) _ hd).1.g6 ((uh HG) _ hd).2).mono ?_
 rintro e w2 ⟨rfl, hf2⟩
 have HF12 : Hid (Fr (fun _ => False) W1 w2) := hid (((Fr.refl _ _).drew).trans hf2 (fun _ _ h => h))
 clear hf2 hd hHeld
 go_simp
 refine hK.out _ _ (uh HF12) (fun hHeld => ?_)
 clear hK K
 (try simp only [Act.put, nrm])
 refine wtk (i := 1) (v := ?_) rfl (Or.inl ⟨by rfl, ?_⟩) hHeld ?_
 rotate_left
 ·intro V hSw; (try dsimp only at hSw); go_simp; (try with_reducible rfl)
 (try simp only [Act.put, nrm])
 refine wtk (i := 2) (v := ?_) rfl (Or.inl ⟨by rfl, ?_⟩) hHeld ?_
 rotate_left
 ·intro V hSw; (try dsimp only at hSw); go_simp; (try with_reducible rfl)
 (try simp only [Act.put, nrm])
 refine wtk (i := 4) rfl (yieldsIf_load_mid rfl 44 (.tmp 3) rfl w.heap.size 0 rfl va _ (fun V hSw => (uh HX) V hSw) Tryz.underlying44 rfl (uh HZ)) hHeld ?_
 (try simp only [Act.put, nrm])
 refine wpAnyH_ready (rs := [3]) (by kernel_rfl) (by simp) (AllReadyH.cons rfl (fun K hK => ?_) AllReadyH.nil)
 go_simp
 refine (lfit_any z _).mono ?_
 rintro e w3 ⟨⟨k, rfl, hk1, hk7⟩, hw3⟩
 obtain rfl := hw3.symm
 clear hHeld
 go_simp
 refine hK.out _ _ (uh HF12) (fun hHeld => ?_)
 clear hK K
 (try simp only [Act.put, nrm])
 refine wpAnyH_ready (rs := [5]) (by kernel_rfl) (by simp) (AllReadyH.cons rfl (fun K hK => ?_) AllReadyH.nil)
 go_simp
 obtain ⟨s, LP, hC⟩ := (uh HB) k hk1 hk7
 have hfw : Fr (fun _ => False) w w2 := (uh HF1).trans (uh HF12) (fun _ _ h => h)
 refine (lputs_any k va E w2 s LP (hC.mono hfw) ((uh HG) _ hfw).1 ((uh HG) _ hfw).2 (uh HL) (by omega)).mono ?_
 rintro e w4 ⟨rfl, hf4⟩
 have HF14 : Hid (Fr (fun _ => False) W1 w4) := hid ((uh HF12).trans hf4 (fun _ _ h => h))
 clear hf4 hfw hC hHeld
 go_simp
 refine hK.out _ _ (uh HF14) (fun hHeld => ?_)
 clear hK K
 (try simp only [Act.put, nrm])
 refine wtk (i := 6) (v := ?_) rfl (Or.inl ⟨by rfl, ?_⟩) hHeld ?_
 rotate_left
 ·intro V hSw; (try dsimp only at hSw); go_simp; (try with_reducible rfl)
 (try simp only [Act.put, nrm])
 refine wtk (i := 7) (v := ?_) rfl (Or.inl ⟨by rfl, ?_⟩) hHeld ?_
 rotate_left
 ·intro V hSw; (try dsimp only at hSw); go_simp; (try with_reducible rfl)
 (try simp only [Act.put, nrm])
 refine wpAnyH_done (by kernel_rfl) ?_ _
 clear hHeld
 (try simp only [lastQ])
 go_simp
 go_wp2_with fail
 go_ret
 exact ⟨rfl, (uh HF1).trans (uh HF14) (fun _ _ h => h)⟩
end Go.Proofs.YtdcopmkgmbiikaaGreatDoor
namespace Go.Proofs.YtdcopmkgmbiikaaGreatDoor
open Go.ChangeShapes Go.WideShapes Go.ChangeAt Go.RowKit Go.Deep
set_option maxRecDepth 100000
theorem putsCs_of {H : Type} {enc : TypeId × Value → H} {W : World} {base : Nat} {v : Value} {d : DataW H} {p : List MemPlace} (hval : Value.okWide Tryz.prog W .any base 44 v) (h : DataW.Trod enc Tryz.prog W 0 (fun _ => true) true 44 v d p) (hk : Rows.uptoBulk d ≤ 1048576) (E : Nat → Addr) :
  ∃ va : List Value, v = .agg va.toArray ∧ va.length = 72 ∧ ∀ k, 1 ≤ k → k ≤ 7 → ∃ s LP, PutsC k va E W s LP := by
 obtain ⟨cs, rfl, hsz, hlt0⟩ := okWide_row Tryz.underlying44 hval
 obtain ⟨fuel, hf0⟩ := h
 obtain ⟨l⟩ := cs
 have hc : (Value.agg ⟨l⟩).cells.toList = l := rfl
 rw [hc] at hf0
 have hlt : ∀ (i : Nat) g o n c, l[i]? = some (.slice (some ⟨g, o, none⟩) n c) → g < W.heap.size := fun i g o n c e => hlt0 i g o n c (by simpa using e)
 obtain ⟨xs, n, _, hx, hl, hlen, hf⟩ := DataW.trod_struct Tryz.underlying44 hf0
 rw [Tryz.zclAny] at hl
 injection hx with hx1 hx2
 subst hx1
 have h0 := hf 0 _ rfl
 have h1 := hf 1 _ rfl
 have h2 := hf 2 _ rfl
 have h3 := hf 3 _ rfl
 have h4 := hf 4 _ rfl
 have h5 := hf 5 _ rfl
 have h6 := hf 6 _ rfl
 refine ⟨l, rfl, hl, ?_⟩
 match xs, hlen with
 | [y0, y1, y2, y3, y4, y5, y6], _ =>
  simp [Tryz.zclRq, Tryz.zclAn, Tryz.zclEv, Tryz.zclHd, Tryz.zclSg, Tryz.zclPr, Tryz.zclMs, -List.drop_one] at h0 h1 h2 h3 h4 h5 h6
  change DataW.trod _ _ _ _ _ _ _ _ ((l.drop 0).take 10) = _ at h0
  change DataW.trod _ _ _ _ _ _ _ _ ((l.drop 10).take 7) = _ at h1
  change DataW.trod _ _ _ _ _ _ _ _ ((l.drop 17).take 13) = _ at h2
  change DataW.trod _ _ _ _ _ _ _ _ ((l.drop 30).take 2) = _ at h3
  change DataW.trod _ _ _ _ _ _ _ _ ((l.drop 32).take 4) = _ at h4
  change DataW.trod _ _ _ _ _ _ _ _ ((l.drop 36).take 1) = _ at h5
  change DataW.trod _ _ _ _ _ _ _ _ ((l.drop 37).take 35) = _ at h6
  have k0 := bulk_in ([y0, y1, y2, y3, y4, y5, y6].map (·.1)) y0.1 (by simp)
  have k1 := bulk_in ([y0, y1, y2, y3, y4, y5, y6].map (·.1)) y1.1 (by simp)
  have k2 := bulk_in ([y0, y1, y2, y3, y4, y5, y6].map (·.1)) y2.1 (by simp)
  have k3 := bulk_in ([y0, y1, y2, y3, y4, y5, y6].map (·.1)) y3.1 (by simp)
  have k4 := bulk_in ([y0, y1, y2, y3, y4, y5, y6].map (·.1)) y4.1 (by simp)
  have k5 := bulk_in ([y0, y1, y2, y3, y4, y5, y6].map (·.1)) y5.1 (by simp)
  have k6 := bulk_in ([y0, y1, y2, y3, y4, y5, y6].map (·.1)) y6.1 (by simp)
  simp only [Rows.uptoBulk] at hk
  intro k hk1 hk7
  match k, hk1, hk7 with
  | 1, _, _ =>
   obtain ⟨r, y, e, a1, a2, a3, a4, a5⟩ := rq_of_trod h0 (by omega)
   exact ⟨_, _, putsC_Request r y l E W (pieceB e (Nat.le_refl _)) a1 a3 a4 a5 a2⟩
  | 2, _, _ =>
   obtain ⟨r, y, z, e, a1, a2, a3, a4, a5, a6, a7⟩ := an_of_trod h1 (by omega)
   exact ⟨_, _, putsC_Answer r y z l E W (pieceB e (Nat.le_refl _)) a1 a3 a6 a5 a7 a2 a4⟩
  | 3, _, _ =>
   obtain ⟨r, y, z, e, a1, a2, a3, a4, a5, a6, a7⟩ := ev_of_trod h2 (piece_lt hlt) (by omega)
   exact ⟨_, _, putsC_Event r y z l E W (pieceB e (Nat.le_refl _)) a1 a3 a6 a7 a5 a2 a4⟩
  | 4, _, _ =>
   obtain ⟨n, r, y, e, a1, a2, a3⟩ := hd_of_trod h3 (piece_lt hlt) (by omega)
   exact ⟨_, _, putsC_Head n r y l E W (pieceB e (Nat.le_refl _)) a1 a3 a2⟩
  | 5, _, _ =>
   obtain ⟨n, r, k, s, y, z, e, a1, a2, a3, a4, a5, a6⟩ := sg_of_trod h4 (piece_lt hlt) (by omega)
   exact ⟨_, _, putsC_Signed n r k s y z l E W (pieceB e (Nat.le_refl _)) a1 a2 a4 a6 a3 a5⟩
  | 6, _, _ =>
   obtain ⟨xo, xc, ps, e, a1, a2, a3⟩ := pr_of_trod h5 (by omega)
   exact ⟨_, _, putsC_Proof ps xo xc l E W (pieceB e (Nat.le_refl _)) a2 a3 a1⟩
  | 7, _, _ =>
   obtain ⟨v, x0, x1, x2, x3, x4, e, a1, a2⟩ := ms_of_trod h6 (piece_lt hlt) (by omega)
   exact ⟨_, _, putsC_Message v x0 x1 x2 x3 x4 l E W (pieceB e (Nat.le_refl _)) a1 a2⟩
end Go.Proofs.YtdcopmkgmbiikaaGreatDoor
namespace Go.Proofs.YtdcopmkgmbiikaaGreatDoor
open Go.ChangeShapes Go.WideShapes Go.ChangeAt Go.RowKit
set_option maxRecDepth 100000
theorem Tryz.etG : Tryz.prog.globalNamed "errors.errorType" = some 2 := by kernel_rfl
theorem Tryz.rtT : (Tryz.prog.cutTypes.find? (·.1 == "internal/reflectlite.rtype")).map (·.2) = some 163 := by kernel_rfl
theorem Tryz.oneErr : ((List.range Tryz.prog.types.size).filter fun t => Tryz.prog.rowNamed t [101, 114, 114, 111, 114]) = [49] := by kernel_rfl
theorem Tryz.hanErr : typeHandle Tryz.prog 49 = .pointer (some ⟨9, 49, none⟩) := by kernel_rfl
def laid7 : List (String × DataW Unit) := [("almoner/api.ErrShort", Rows.laid_almoner_api_ErrShort), ("almoner/api.ErrLong", Rows.laid_almoner_api_ErrLong), ("almoner/api.ErrTrailing", Rows.laid_almoner_api_ErrTrailing), ("almoner/api.ErrRange", Rows.laid_almoner_api_ErrRange), ("almoner/api.ErrKind", Rows.laid_almoner_api_ErrKind), ("almoner/api.ErrOrder", Rows.laid_almoner_api_ErrOrder), ("almoner/almonerlaw1.own", Rows.laid_almoner_almonerlaw1_own)]
theorem et_of_laid {W : World} (h : handlesMet Tryz.prog [("errors.errorType", Rows.laid_errors_errorType)] W) : Et W := by
 obtain ⟨name, u, ty, e1, e2, e3, e4, e5⟩ := h _ (List.mem_singleton.2 rfl)
 have en : name = [101, 114, 114, 111, 114] := (Option.some.inj e1).symm
 subst en
 obtain rfl := Option.some.inj (Tryz.rtT.symm.trans e2)
 have hm : ty ∈ (List.range Tryz.prog.types.size).filter fun t => Tryz.prog.rowNamed t [101, 114, 114, 111, 114] := List.mem_filter.2 ⟨List.mem_range.2 e3, e4⟩
 rw [Tryz.oneErr] at hm
 obtain rfl := List.mem_singleton.1 hm
 rw [Tryz.hanErr] at e5
 unfold Et
 simpa using World.var?_cell Tryz.etG e5 0
theorem g7_of_laid {W : World} (h : laidMetH Tryz.prog (("errors.errorType", Rows.laid_errors_errorType) :: laid7) W) : ∃ E, G7 W E := by
 have h' : laidMet Tryz.prog laid7 W ∧ handlesMet Tryz.prog [("errors.errorType", Rows.laid_errors_errorType)] W := h
 obtain ⟨a1, h1⟩ := sentinel_cell h'.1 (.head _) (g := 0) (by kernel_rfl) (by kernel_rfl)
 obtain ⟨a2, h2⟩ := sentinel_cell h'.1 (.tail _ (.head _)) (g := 3) (by kernel_rfl) (by kernel_rfl)
 obtain ⟨a3, h3⟩ := sentinel_cell h'.1 (.tail _ (.tail _ (.head _))) (g := 1) (by kernel_rfl) (by kernel_rfl)
 obtain ⟨a4, h4⟩ := sentinel_cell h'.1 (.tail _ (.tail _ (.tail _ (.head _)))) (g := 4) (by kernel_rfl) (by kernel_rfl)
 obtain ⟨a5, h5⟩ := sentinel_cell h'.1 (.tail _ (.tail _ (.tail _ (.tail _ (.head _))))) (g := 5) (by kernel_rfl) (by kernel_rfl)
 obtain ⟨a6, h6⟩ := sentinel_cell h'.1 (.tail _ (.tail _ (.tail _ (.tail _ (.tail _ (.head _)))))) (g := 6) (by kernel_rfl) (by kernel_rfl)
 obtain ⟨a7, h7⟩ := sentinel_cell h'.1 (.tail _ (.tail _ (.tail _ (.tail _ (.tail _ (.tail _ (.head _))))))) (g := 7) (by kernel_rfl) (by kernel_rfl)
 exact ⟨fun n => if n = 1 then a1 else if n = 2 then a2 else if n = 3 then a3 else if n = 4 then a4 else if n = 5 then a5 else if n = 6 then a6 else a7, ⟨h1, h2, h3⟩, h4, h5, h6, h7, et_of_laid h'.2⟩
noncomputable def errWorld8 (os : Os) : World :=
 let w0 := errWorld os
 { w0 with heap := w0.heap.modify 2 fun
   | .cells _ t frozen => .cells #[.iface 163 (.agg #[.pointer (some ⟨9, 49, none⟩)])] t frozen
   | o => o }
set_option maxRecDepth 100000
theorem wputs_contract (H : Type) (enc : TypeId × Value → H) (W : World) (base : Nat) (args : Array Value) (ds gs : List (DataW H)) (before : List MemPlace)
  (hval : ∀ (j : Nat) t v, Tryz.f4.params[j]? = some t → args[j]? = some v → Value.okWide Tryz.prog W .any base t v)
  (hW : DataW.Whole enc Tryz.prog Tryz.f4.params.toList Rows.wirePutsSpec.vars false W args.toList ds gs before) (hk : Rows.uptoSmall H (ds ++ gs) = true) (hL : laidMetH Tryz.prog Rows.wirePutsUptoRow.laid W) (hsh : W.ShapedOpen Tryz.prog) :
  Calls Tryz.prog 4 args W fun e W' => ∃ v, e = .returned v ∧ Rows.wirePutsSpec.post enc Tryz.prog Tryz.f4 false true false false W args v W' := by
 have hW' := hW
 obtain ⟨p, q, hA0, hV, rfl, hfz, hnd⟩ := hW
 have hA : DataW.TrodAll enc Tryz.prog W 0 (fun _ => true) true Tryz.f4.params.toList args.toList ds p := hA0
 rw [Tryz.params4] at hA hval
 obtain ⟨v0, vs0, d0, ds0, p0, q0, hargs, rfl, rfl, h0, r0⟩ := trodAll_cons hA
 obtain ⟨v1, vs1, d1, ds1, p1, q1, rfl, rfl, rfl, h1, r1⟩ := trodAll_cons r0
 obtain ⟨rfl, rfl, rfl⟩ := trodAll_nil r1
 obtain rfl : args = #[v0, v1] := by cases args; simp_all
 obtain ⟨rfl, rfl⟩ := trodVars_none hV
 have hbulk : Rows.uptoBulk d0 + (Rows.uptoBulk d1 + 0) ≤ 1048576 := by
  have h := of_decide_eq_true hk
  simpa only [List.append_nil, Rows.uptoBulkAll] using h
 obtain ⟨z0, rfl, rfl, rfl, w0⟩ := open_int Tryz.underlying3 (hval 0 3 v0 rfl rfl) h0
 obtain ⟨E, hg⟩ := g7_of_laid hL
 obtain ⟨va, rfl, hva, hB⟩ := putsCs_of (hval 1 44 v1 rfl rfl) h1 (by omega) E
 refine (wputs_any z0 va E W hg (heap_ok hsh) hva hB).mono fun e W' ⟨he, hf⟩ => ?_
 subst he
 have hlt : ∀ x ∈ [] ++ (p1 ++ []), x.block < W.heap.size := fun x hx => hW'.lt x (by simpa using hx)
 have hb := hf.low
 refine ⟨_, rfl, _, _, _, [], [] ++ (p1 ++ []), [], hW', ?_, ?_, ?_, hb.frame _, fun h => by cases h⟩
 ·exact trodAll_cons_mk (shut_bool Tryz.underlying4 true) trodAll_mk0
 ·exact trodAll_cons_mk (shut_int Tryz.underlying3 w0) (trodAll_cons_mk (Below.trod (by kernel_rfl) (by kernel_rfl) (by decide +kernel) h1 hb (fun x hx => hlt x (by simp [hx]))) trodAll_mk0)
 ·rfl
theorem wputs_laid_met (os : Os) : laidMetH Tryz.prog Rows.wirePutsUptoRow.laid ((errWorld8 os).forCall (fun _ _ => 0) ⟨#[], #[.int .i64 0, .agg zAL.toArray], []⟩).memory :=
 laidMetH_of_parts (laidMet_of_run' 8 (by kernel_rfl) (by kernel_rfl)) (by kernel_rfl)
theorem wputs_reads (os : Os) {H : Type} (enc : TypeId × Value → H) : ∃ places, DataW.whole enc Tryz.prog ((errWorld8 os).forCall (fun _ _ => 0) ⟨#[], #[.int .i64 0, .agg zAL.toArray], []⟩).memory Tryz.f4.params.toList Rows.wirePutsSpec.vars false #[Value.int .i64 0, .agg zAL.toArray].toList 8 = some ([.lit (.int .i64 0), .agg [.agg [.agg [.lit (.int .u32 0), .lit (.int .u32 0)], .lit (.int .u32 0), .lit (.int .u8 0), .lit (.int .u32 0), .lit (.int .u32 0), .lit (.int .u32 0), .lit (.int .u32 0), .nil, .lit (.string [])], .agg [.agg [.lit (.int .u32 0), .lit (.int .u32 0)], .lit (.int .u8 0), .lit (.int .u32 0), .lit (.int .u32 0), .nil, .nil], .agg [.lit (.int .u32 0), .agg [.agg [.lit (.int .u32 0), .lit (.int .u32 0)], .lit (.int .u32 0), .lit (.int .u8 0), .lit (.int .u32 0), .lit (.int .u32 0), .lit (.int .u32 0), .lit (.int .u32 0), .nil, .lit (.string [])], .lit (.int .u8 0), .nil], .agg [.lit (.int .u32 0), .nil], .agg [.agg [.lit (.int .u32 0), .nil], .lit (.int .u32 0), .nil], .agg [.nil], .agg [.lit (.int .u8 0), .agg [.agg [.lit (.int .u32 0), .lit (.int .u32 0)], .lit (.int .u32 0), .lit (.int .u8 0), .lit (.int .u32 0), .lit (.int .u32 0), .lit (.int .u32 0), .lit (.int .u32 0), .nil, .lit (.string [])], .agg [.lit (.int .u32 0), .lit (.int .u32 0)], .agg [.agg [.lit (.int .u32 0), .lit (.int .u32 0)], .lit (.int .u8 0), .lit (.int .u32 0), .lit (.int .u32 0), .nil, .nil], .lit (.int .u8 0), .agg [.lit (.int .u32 0), .agg [.agg [.lit (.int .u32 0), .lit (.int .u32 0)], .lit (.int .u32 0), .lit (.int .u8 0), .lit (.int .u32 0), .lit (.int .u32 0), .lit (.int .u32 0), .lit (.int .u32 0), .nil, .lit (.string [])], .lit (.int .u8 0), .nil], .lit (.int .u32 0)]]], [], places) :=
 ⟨[], by kernel_rfl⟩
theorem wputs_lifted (os : Os) (started : os.Started) (H : Type) (enc : TypeId × Value → H) (F : Stop.Interp) :
  ReturnsInHanded {} Tryz.checked os 4 .any ((Rows.OpenSpec.upto Rows.wirePutsSpec).preRow enc Tryz.prog Tryz.f4 Rows.wirePutsUptoRow.domain false Rows.wirePutsUptoRow.laid) (((Rows.OpenSpec.upto Rows.wirePutsSpec).at F).post enc Tryz.prog Tryz.f4 false true false false) := by
 obtain ⟨places, hx⟩ := wputs_reads os enc
 refine returnsInHanded_of_row (C := Tryz.checked) (s := Rows.OpenSpec.upto Rows.wirePutsSpec) Tryz.ownKnob started (by kernel_rfl) Tryz.func4
  (witness_row_atRef (enc := enc) (C := Tryz.checked) false (errWorld8 os) #[.int .i64 0, .agg zAL.toArray] rfl (by kernel_rfl) (by kernel_rfl) (by kernel_rfl)
   (OpenSpec.preRow_of_cond 8 hx (by kernel_rfl) (fun k hk => by cases hk; kernel_rfl) (by kernel_rfl) (wputs_laid_met os))) ?_
 intro W base args ds gs before hval hW _ hcond _ hL hsh _
 exact wputs_contract H enc W base args ds gs before hval hW (hcond _ rfl) hL hsh
theorem wputs_said : Rows.WirePutsUptoSaid :=
 OpenClaim.holds_of_cond 4 Tryz.f4 rfl rfl rfl rfl rfl rfl rfl ⟨rfl, rfl, rfl, rfl, rfl⟩ rfl rfl rfl rfl rfl (by kernel_rfl) Tryz.func4 (by kernel_rfl)
  (of_decide_eq_true (by kernel_rfl)) (by unfold Func.isWrapper; first | (rw [if_pos (by decide +kernel)]; kernel_rfl) | (rw [if_neg (by decide +kernel)]; exact ⟨rfl, rfl⟩))
  (fun os started H enc _ F => by rw [OpenClaim.pre_eq_preRow]; exact wputs_lifted os started H enc F)
theorem wputs_plain (f : FuncId) (fn : Func) (hf : Tryz.pinned.checked.prog.funcNamed Rows.wirePutsUptoRow.func = some f) (hfn : Tryz.pinned.checked.prog.funcs[f]? = some fn) :
  true = Tryz.pinned.checked.prog.looks [] ∧ ∀ (j : Nat) t, fn.params[j]? = some t → Tryz.pinned.checked.prog.wantsStandIn t = false := by
 obtain rfl : f = 4 := Option.some.inj ((show Tryz.prog.funcNamed Rows.wirePutsUptoRow.func = some 4 by kernel_rfl).symm.trans hf) |>.symm
 obtain rfl : fn = Tryz.f4 := (Option.some.inj (Tryz.func4.symm.trans hfn)).symm
 refine ⟨by kernel_rfl, fun j t ht => ?_⟩
 rw [Tryz.params4] at ht
 have hm := Array.mem_of_getElem? ht
 simp at hm
 rcases hm with rfl | rfl
 ·exact (show Tryz.prog.wantsStandIn 3 = false by kernel_rfl)
 ·exact (show Tryz.prog.wantsStandIn 44 = false by kernel_rfl)
theorem wputs_card : Rows.WirePutsUptoCardSaid :=
 Claim7.holds_tied_plain_at .later [] _ _ _ _ wputs_said (fun _ h => by cases h) (by kernel_rfl) (fun _ h => by cases h) wirePutsUpto_row_tie rfl ⟨rfl, rfl⟩ (by kernel_rfl) rfl wputs_plain (by kernel_rfl)
#print axioms wputs_card
end Go.Proofs.YtdcopmkgmbiikaaGreatDoor
