import Derived.Test.YtikolmpgnpkdbaaDoorPk4
import Derived.Laws.IdiomStrings
import Derived.Lib.BufferRead
namespace Go.Proofs.YtikolmpgnpkdbaaDoor
open Go.RowKit

@[go_sem] theorem run_store_float (P : Program) (w : World) (a : Addr) (m : Mode) (k : FloatKind) (x : Nat) : (store a (.float k x) m).run P w = stored P w a (.float k x) m := run_store P w a _ m rfl

set_option maxRecDepth 100000 in
set_option maxHeartbeats 400000 in
theorem rp_float32_clo (b Fc : Nat) (caps : Array Value) (p0 p1 p2 : Addr) (nm : ByteArray) (sv old : Value) (all : List Nat) (place part p' : Nat) (x : Nat) (w : World) (h : Rc w b nm sv all place part)
    (hp0 : w.cell? p0 = some (.pointer (some ⟨b, 0, none⟩))) (hp1 : w.cell? p1 = some (.func (.func Fc) #[] caps)) (hp2 : w.cell? p2 = some old) (f2 : w.frozen? p2 = false) (n0 : p0.block ≠ b) (n1 : p1.block ≠ b) (n2 : p2.block ≠ b)
    (he : ∀ W, (callFunc Fc caps).run Tryd.prog W = .ok (.enter Fc caps) W)
    (hread : ∀ wk, Fr (fun k => k = b) w wk → Rc wk b nm sv all place place → Calls Tryd.prog Fc caps wk fun e w' => e = .returned (.float .f32 x) ∧ Rc w' b nm sv all p' place ∧ Fr (fun k => k = b) wk w') :
    Calls Tryd.prog 106 #[.pointer (some p0), .pointer (some p1), .pointer (some p2)] w fun e w' => e = .returned (.tuple #[]) ∧ ∃ w1, Rc w1 b nm sv all p' place ∧ Fr (fun k => k = b) w w1 ∧ w' = w1.setCell p2 (.float .f32 x) := by
  have HR := hide hread
  have HP := hide (h.parted place)
  have h3 := h.c3
  have h4 := h.c4
  have z4 := h.fz 4
  have q1 : (w.setCell ⟨b, 4, none⟩ (.int .i64 place)).drew.cell? p1 = some (.func (.func Fc) #[] caps) := ((unhide HP).2.cell (lt_of_cell hp1) n1).trans hp1
  have q0 : (w.setCell ⟨b, 4, none⟩ (.int .i64 place)).drew.cell? p0 = some (.pointer (some ⟨b, 0, none⟩)) := ((unhide HP).2.cell (lt_of_cell hp0) n0).trans hp0
  have l2 := lt_of_cell hp2
  have P2 := hide hp2
  have F2 := hide f2
  clear hread h hp1 hp2 f2
  simp only [World.cell?_drew] at q1 q0
  go_enter Tryd.func106, Tryd.ntmps106
  go_wp2_with fail
  go_region
  all_goals
    go_wp2_with fail
    refine (unhide HR _ (unhide HP).2 (unhide HP).1).mono ?_
    rintro e w1 ⟨rfl, hr, hf⟩
    have hf' := (unhide HP).2.trans hf (fun _ _ h => h)
    have r2 := (hf'.cell l2 n2).trans (unhide P2)
    have g2 := (hf'.frozen l2 n2).trans (unhide F2)
    go_wp2_with fail
    go_end0
    exact ⟨rfl, w1, hr, hf', rfl⟩
theorem rp_float32_att {wb : World} (b Fc : Nat) (caps : Array Value) (p0 p1 p2 : Addr) (nm : ByteArray) (sv old : Value) (all : List Nat) (place part p' : Nat) (x : Nat) (h : Rc wb b nm sv all place part)
    (hp0 : wb.cell? p0 = some (.pointer (some ⟨b, 0, none⟩))) (hp1 : wb.cell? p1 = some (.func (.func Fc) #[] caps)) (hp2 : wb.cell? p2 = some old) (f2 : wb.frozen? p2 = false) (n0 : p0.block ≠ b) (n1 : p1.block ≠ b) (n2 : p2.block ≠ b)
    (he : ∀ W, (callFunc Fc caps).run Tryd.prog W = .ok (.enter Fc caps) W)
    (hread : ∀ wk, Fr (fun k => k = b) wb wk → Rc wk b nm sv all place place → Calls Tryd.prog Fc caps wk fun e w' => e = .returned (.float .f32 x) ∧ Rc w' b nm sv all p' place ∧ Fr (fun k => k = b) wk w') :
    Calls Tryd.prog 54 #[.pointer (some ⟨b, 0, none⟩), .func (.func 106) #[] #[.pointer (some p0), .pointer (some p1), .pointer (some p2)]] wb fun e w' => e = .returned (.tuple #[]) ∧ ∃ w1, Rc w1 b nm sv all p' place ∧ Fr (fun k => k = b) wb w1 ∧ w' = w1.setCell p2 (.float .f32 x) := by
  have hk : Fr (fun _ => False) wb (wb.alloc (.cells #[.pointer (some ⟨b, 0, none⟩)] 108)) := (Fr.refl _ _).alloc _
  have hkb : Fr (fun k => k = b) wb (wb.alloc (.cells #[.pointer (some ⟨b, 0, none⟩)] 108)) := (Fr.refl _ _).alloc _
  refine attempt_ok b 106 _ (fun w' => ∃ w1, Rc w1 b nm sv all p' place ∧ Fr (fun k => k = b) wb w1 ∧ w' = w1.setCell p2 (.float .f32 x)) wb h.c1 (enters Tryd.func106 (by kernel_rfl) (by kernel_rfl) _) ?_
  refine (rp_float32_clo b Fc caps p0 p1 p2 nm sv old all place part p' x _ (h.frame hk (fun h => h) (fun _ _ _ _ _ h => h)) ((hk.cell (lt_of_cell hp0) (fun h => h)).trans hp0) ((hk.cell (lt_of_cell hp1) (fun h => h)).trans hp1) ((hk.cell (lt_of_cell hp2) (fun h => h)).trans hp2) ((hk.frozen (lt_of_cell hp2) (fun h => h)).trans f2) n0 n1 n2 he (fun wk hf hr => hread wk (hkb.trans hf (fun _ _ h => h)) hr)).mono ?_
  rintro e w' ⟨rfl, w1, hr, hf, rfl⟩
  exact ⟨rfl, w1, hr, hkb.trans hf (fun _ _ h => h), rfl⟩

set_option maxRecDepth 100000 in
theorem rp_float32_ok (b Fc : Nat) (caps : Array Value) (F : Nat → Prop) (s : Rst) (p' : Nat) (x : Nat) (w : World) (h : R w b F s) (hn : s.f = none) (he : ∀ W, (callFunc Fc caps).run Tryd.prog W = .ok (.enter Fc caps) W)
    (hread : ∀ wk sv, Fr (fun k => k = b) w wk → Rc wk b s.nm sv s.all s.place s.place → Calls Tryd.prog Fc caps wk fun e w' => e = .returned (.float .f32 x) ∧ Rc w' b s.nm sv s.all p' s.place ∧ Fr (fun k => k = b) wk w') :
    Calls Tryd.prog 84 #[.pointer (some ⟨b, 0, none⟩), .func (.func Fc) #[] caps] w fun e w' => e = .returned (.float .f32 x) ∧ R w' b F { s with place := p', part := s.place } ∧ Fr (fun k => k = b) w w' := by
  obtain ⟨sv, hr, hF⟩ := h.rc hn
  have hlt := h.lt b h.fb
  have hmf := mf
  have H := hide (And.intro h (And.intro hn (And.intro hr hF)))
  have HR := hide hread
  clear h hn hr hF hread
  go_enter Tryd.func84, Tryd.ntmps84
  go_wp2_with fail
  refine (rp_float32_att b Fc caps ⟨w.heap.size, 0, none⟩ ⟨w.heap.size + 1, 0, none⟩ ⟨w.heap.size + 1 + 1, 0, none⟩ s.nm sv _ s.all s.place s.part p' x ((unhide H).2.2.1.frame (box3 w _ _ _) (fun h => h) (fun _ _ _ _ _ h => h)) (c30 _ _ _ _ _) (c31 _ _ _ _ _) (c32 _ _ _ _ _) (z32 _ _ _ _ _) (by show w.heap.size ≠ b; omega) (by show w.heap.size + 1 ≠ b; omega) (by show w.heap.size + 1 + 1 ≠ b; omega) he (fun wk hf hr => unhide HR wk sv ((box3b w b _ _ _).trans hf (fun _ _ h => h)) hr)).mono ?_
  rintro e w' ⟨rfl, w1, hr, hf, rfl⟩
  have hf1 := (box3b w b _ _ _).trans hf (fun _ _ h => h)
  have hc2 := (hf.cell (p := ⟨w.heap.size + 1 + 1, 0, none⟩) (by simp) (by show ¬ w.heap.size + 1 + 1 = b; omega)).trans (c32 _ _ _ _ _)
  have hz2 := (hf.frozen (p := ⟨w.heap.size + 1 + 1, 0, none⟩) (by simp) (by show ¬ w.heap.size + 1 + 1 = b; omega)).trans (z32 _ _ _ _ _)
  have HH := hide (And.intro hr hf1)
  clear hr hf1 hf
  go_wp2_with fail
  obtain ⟨hR, hF⟩ := rp_fin (V := .float .f32 x) (unhide H).1 (unhide H).2.1 (unhide H).2.2.2 (unhide HH).1 (unhide HH).2
  exact bodyPost_ret (v := .float .f32 x) (by simp [results, Tryd.results84, go_sem, hc2]) rfl ⟨rfl, hR, hF⟩

/-- The text of bytes. -/
def strOf (l : List Nat) : ByteArray := ⟨(l.map UInt8.ofNat).toArray⟩
theorem strOf_bytesOf (s : ByteArray) : strOf (bytesOf s) = s := by
  obtain ⟨⟨l⟩⟩ := s
  simp [strOf, bytesOf, Function.comp_def]
theorem conv_back (w : World) (v : Value) (l : List Nat) (h : Src w v l) : (convert 25 9 v).run Tryd.prog w = .ok (.string (strOf l)) w := by
  rcases h with ⟨rfl, rfl⟩ | ⟨g, o, c, rfl, hc⟩ | ⟨a, c, rfl, rfl⟩
  · rw [Lib.run_convert_nil_bytes w 25 9 5 0 Tryd.underlying25 Tryd.underlying5 Tryd.underlying9]; rfl
  · have h := run_convert_bytes_back (P := Tryd.prog) w 25 9 5 ⟨g, o, none⟩ c (l.map UInt8.ofNat) Tryd.underlying25 Tryd.underlying5 Tryd.underlying9 (fun j hj => by
      have hj' : j < l.length := by simpa using hj
      have := hc j (B l[j]) (by simp [cellsOf, hj'])
      have e : (⟨g, o, none⟩ : Addr).add j = ⟨g, o + j, none⟩ := by unfold Addr.add; split <;> simp_all
      rw [e, this]
      simp [B])
    simpa [strOf] using h
  · have h := run_convert_bytes_back (P := Tryd.prog) w 25 9 5 a c [] Tryd.underlying25 Tryd.underlying5 Tryd.underlying9 (fun j hj => by simp at hj)
    simpa [strOf] using h

theorem rCount_clo (b place part : Nat) (most : Int) (p0 p1 : Addr) (nm : ByteArray) (sv : Value) (all : List Nat) (E : Nat → Addr) (w : World) (hb : 9 ≤ b) (hm : most < 9223372036854775808) (hg : Gl w E) (h : Rc w b nm sv all place part)
    (hp0 : w.cell? p0 = some (.pointer (some ⟨b, 0, none⟩))) (hp1 : w.cell? p1 = some (.int .i64 most)) (hn : 4 + place ≤ all.length) (hv : (val ((all.drop place).take 4) : Int) ≤ most) :
    Calls Tryd.prog 90 #[.pointer (some p0), .pointer (some p1)] w fun e w' => e = .returned (.int .i64 (val ((all.drop place).take 4))) ∧ Rc w' b nm sv all (place + 4) part ∧ Fr (fun k => k = b) w w' := by
  have HC := hide (rcount_ok b place part most nm sv all E w hb hm hg h hn hv)
  clear hg h
  generalize val ((all.drop place).take 4) = x at *
  go_enter Tryd.func90, Tryd.ntmps90
  go_wp2_with fail
  refine (unhide HC).mono ?_
  rintro e w1 ⟨rfl, hr⟩
  have HR := hide hr
  clear hr HC
  go_wp2_with fail
  go_ret
  exact ⟨rfl, unhide HR⟩

set_option maxRecDepth 100000 in
theorem rF32_clo (b place part : Nat) (p0 er : Addr) (nm : ByteArray) (sv : Value) (all : List Nat) (E : Nat → Addr) (w : World) (hb : 9 ≤ b) (hg : Gl w E) (hr : Rg w er) (h : Rc w b nm sv all place part) (n0 : p0.block ≠ b)
    (hp0 : w.cell? p0 = some (.pointer (some ⟨b, 0, none⟩))) (hn : 4 + place ≤ all.length) (hq : quantB (val ((all.drop place).take 4)) = true) :
    Calls Tryd.prog 85 #[.pointer (some p0)] w fun e w' => e = .returned (.float .f32 (val ((all.drop place).take 4))) ∧ Rc w' b nm sv all (place + 4) part ∧ Fr (fun k => k = b) w w' := by
  have HT := hide (rnumber_ok b 4 place part nm sv all E w (by decide) hg h hn)
  have hlt : val ((all.drop place).take 4) < 4294967296 := by
    have h1 := val_lt ((all.drop place).take 4)
    have h2 : ((all.drop place).take 4).length = 4 := by simp; omega
    rw [h2] at h1; exact h1
  have hp0lt := lt_of_cell hp0
  have HG := hide hr
  clear hg h hr
  generalize val ((all.drop place).take 4) = x at *
  have hw : IntKind.u32.wrap (x : Int) = (x : Int) := by rw [IntKind.wrap_u32]; omega
  have hff := Tryd.ffrom
  have hnot : ∀ (x : Bool) (w : World), (Op.unary .not (.bool x)).run Tryd.prog w = .ok (.bool (!x)) w := fun _ _ => rfl
  go_enter Tryd.func85, Tryd.ntmps85
  go_wp2_with fail
  refine (unhide HT).mono ?_
  rintro e w1 ⟨rfl, hr, hf⟩
  have q0 := (hf.cell hp0lt n0).trans hp0
  have hrg := (unhide HG).fr hf (fun k e => by have h' : k = b := e; omega)
  unfold Rg at hrg
  have HR := hide (And.intro hr hf)
  clear hr hf HT HG hp0
  go_wp2_with fail
  go_quiet ((first | (go_at_call 76; exact Calls.quiet_of_same ((isq_any x hlt _).mono (fun e w' h => by rw [hq] at h; exact h))) | (go_at_call 86; exact Calls.quiet_of_same (rrefuse_no _ _ _))))
  go_wp2_with fail
  go_ret
  exact ⟨rfl, (unhide HR).1.frame ((Fr.refl (fun _ => False) _).drewN _) (fun h => h) (fun _ _ _ _ _ h => h), (unhide HR).2.drewN _⟩
end Go.Proofs.YtikolmpgnpkdbaaDoor

namespace Go.Proofs.YtikolmpgnpkdbaaDoor
open Go.RowKit

theorem rText_end {w w1 w2 w3 : World} {b place part x : Nat} {nm : ByteArray} {sv : Value} {all : List Nat} (hf : Fr (fun k => k = b) w.drew w1) (hr2 : Rc w2 b nm sv all (place + 4 + x) part) (hf2 : Fr (fun k => k = b) w1 w2) (hf3 : Fr (fun _ => False) w2 w3) :
    Rc w3 b nm sv all (place + 4 + x) part ∧ Fr (fun k => k = b) w w3 := by
  have hf0 : Fr (fun k => k = b) w w1 := ⟨hf.os, hf.tape, hf.output, hf.size, hf.block⟩
  exact ⟨hr2.frame hf3 (fun h => h) (fun _ _ _ _ _ h => h), (hf0.trans hf2 (fun _ _ h => h)).trans hf3 (fun _ _ h => h.elim)⟩

set_option maxRecDepth 100000 in
set_option maxHeartbeats 1000000 in
theorem rText_clo (b place part x : Nat) (most : Int) (p0 p1 : Addr) (nm : ByteArray) (sv : Value) (all : List Nat) (E : Nat → Addr) (w : World) (hb : 9 ≤ b) (hm : most < 9223372036854775808) (hg : Gl w E) (h : Rc w b nm sv all place part)
    (hp0 : w.cell? p0 = some (.pointer (some ⟨b, 0, none⟩))) (hp1 : w.cell? p1 = some (.int .i64 most)) (n0 : p0.block ≠ b) (hx : val ((all.drop place).take 4) = x) (hn : 4 + place ≤ all.length) (hv : (x : Int) ≤ most) (hxl : x + (place + 4) ≤ all.length) :
    Calls Tryd.prog 88 #[.pointer (some p0), .pointer (some p1)] w fun e w' => e = .returned (.string (strOf ((all.drop (place + 4)).take x))) ∧ Rc w' b nm sv all (place + 4 + x) part ∧ Fr (fun k => k = b) w w' := by
  have HC := hide (rcount_ok b place part most nm sv all E w.drew hb hm hg.drew h.drew hn (by rw [hx]; exact hv))
  rw [hx] at HC
  have HG := hide hg
  have H := hide h
  have hlt : b < w.heap.size := lt_of_cell h.c0
  have hp0lt := lt_of_cell hp0
  clear hg h hx
  go_enter Tryd.func88, Tryd.ntmps88
  go_wp2_with fail
  go_region_with (first
    | (go_at_call 62; refine (unhide HC).mono ?_; rintro e w1 ⟨rfl, hr, hf⟩; have q0 : w1.cell? p0 = some (.pointer (some ⟨b, 0, none⟩)) := (hf.cell hp0lt n0).trans hp0; have HR := hide (And.intro hr hf); clear hr hf)
    | (go_at_call 61; refine (take_ok b x (place + 4) part nm sv all E w1 ((unhide HG).drew.frb (unhide HR).2 hb) (unhide HR).1 hxl).mono ?_; rintro e w2 ⟨v, rfl, hsrc, hr2, hf2⟩; have hcv := conv_back w2 v _ hsrc; have HR2 := hide (And.intro hsrc (And.intro hr2 hf2)); clear hsrc hr2 hf2))
  all_goals
    have hres := rText_end (unhide HR).2 (unhide HR2).2.1 (unhide HR2).2.2 (Fr.refl _ _)
    have HE := hide hres
    clear hres
    go_wp2
    go_ret
    exact ⟨rfl, unhide HE⟩

theorem rText_ok (b x : Nat) (most : Int) (F : Nat → Prop) (s : Rst) (E : Nat → Addr) (w : World) (hm : most < 9223372036854775808) (hg : Gl w E) (h : R w b F s) (hn : s.f = none) (hx : val ((s.all.drop s.place).take 4) = x) (hl : 4 + s.place ≤ s.all.length) (hv : (x : Int) ≤ most) (hxl : x + (s.place + 4) ≤ s.all.length) :
    Calls Tryd.prog 46 #[.pointer (some ⟨b, 0, none⟩), .int .i64 most] w fun e w' => e = .returned (.string (strOf ((s.all.drop (s.place + 4)).take x))) ∧ R w' b F { s with place := s.place + 4 + x, part := s.place } ∧ Fr (fun k => k = b) w w' := by
  have hlt := h.lt b h.fb
  have hlo := h.lo b h.fb
  have hmf := mf
  have H := hide (And.intro h (And.intro hn hg))
  have HX := hide hx
  clear h hn hg hx
  go_enter Tryd.func46, Tryd.ntmps46
  go_wp2_with fail
  refine (rp_string_ok b 88 _ F s (s.place + 4 + x) (strOf ((s.all.drop (s.place + 4)).take x)) _ ((unhide H).1.frame (box2 w _ _) (fun _ _ h => h)) (unhide H).2.1 (enters Tryd.func88 (by kernel_rfl) (by kernel_rfl) _) (fun wk sv hf hr => rText_clo b s.place s.place x most ⟨w.heap.size, 0, none⟩ ⟨w.heap.size + 1, 0, none⟩ s.nm sv s.all E wk hlo hm (((unhide H).2.2.fr0 (box2 w _ _)).frb hf hlo) hr ((hf.cell (by simp <;> omega) (by show ¬ w.heap.size = b; omega)).trans (by simp)) ((hf.cell (by simp) (by show ¬ w.heap.size + 1 = b; omega)).trans (by simp)) (by show w.heap.size ≠ b; omega) (unhide HX) hl hv hxl)).mono ?_
  rintro e w' ⟨rfl, hR, hf⟩
  have HR := hide (And.intro hR hf)
  clear hR hf
  go_wp2_with fail
  go_ret
  exact ⟨rfl, (unhide HR).1, ((box2 w _ _).mono (fun _ _ h => h.elim)).trans (unhide HR).2 (fun _ _ h => h)⟩

theorem rCount_ok (b : Nat) (most : Int) (F : Nat → Prop) (s : Rst) (E : Nat → Addr) (w : World) (hm : most < 9223372036854775808) (hg : Gl w E) (h : R w b F s) (hn : s.f = none) (hl : 4 + s.place ≤ s.all.length) (hv : (val ((s.all.drop s.place).take 4) : Int) ≤ most) :
    Calls Tryd.prog 47 #[.pointer (some ⟨b, 0, none⟩), .int .i64 most] w fun e w' => e = .returned (.int .i64 (val ((s.all.drop s.place).take 4))) ∧ R w' b F { s with place := s.place + 4, part := s.place } ∧ Fr (fun k => k = b) w w' := by
  have hlt := h.lt b h.fb
  have hlo := h.lo b h.fb
  have hmf := mf
  have H := hide (And.intro h (And.intro hn hg))
  clear h hn hg
  go_enter Tryd.func47, Tryd.ntmps47
  go_wp2_with fail
  refine (rp_int_ok b 90 _ F s (s.place + 4) (val ((s.all.drop s.place).take 4)) _ ((unhide H).1.frame (box2 w _ _) (fun _ _ h => h)) (unhide H).2.1 (enters Tryd.func90 (by kernel_rfl) (by kernel_rfl) _) (fun wk sv hf hr => rCount_clo b s.place s.place most ⟨w.heap.size, 0, none⟩ ⟨w.heap.size + 1, 0, none⟩ s.nm sv s.all E wk hlo hm (((unhide H).2.2.fr0 (box2 w _ _)).frb hf hlo) hr ((hf.cell (by simp <;> omega) (by show ¬ w.heap.size = b; omega)).trans (by simp)) ((hf.cell (by simp) (by show ¬ w.heap.size + 1 = b; omega)).trans (by simp)) hl hv)).mono ?_
  rintro e w' ⟨rfl, hR, hf⟩
  have HR := hide (And.intro hR hf)
  clear hR hf
  go_wp2_with fail
  go_ret
  exact ⟨rfl, (unhide HR).1, ((box2 w _ _).mono (fun _ _ h => h.elim)).trans (unhide HR).2 (fun _ _ h => h)⟩

theorem rF32_ok (b : Nat) (F : Nat → Prop) (s : Rst) (E : Nat → Addr) (er : Addr) (w : World) (hg : Gl w E) (hr : Rg w er) (h : R w b F s) (hn : s.f = none) (hl : 4 + s.place ≤ s.all.length) (hq : quantB (val ((s.all.drop s.place).take 4)) = true) :
    Calls Tryd.prog 45 #[.pointer (some ⟨b, 0, none⟩)] w fun e w' => e = .returned (.float .f32 (val ((s.all.drop s.place).take 4))) ∧ R w' b F { s with place := s.place + 4, part := s.place } ∧ Fr (fun k => k = b) w w' := by
  have hlt := h.lt b h.fb
  have hlo := h.lo b h.fb
  have hmf := mf
  have H := hide (And.intro h (And.intro hn (And.intro hg hr)))
  clear h hn hg hr
  go_enter Tryd.func45, Tryd.ntmps45
  go_wp2_with fail
  refine (rp_float32_ok b 85 _ F s (s.place + 4) (val ((s.all.drop s.place).take 4)) _ ((unhide H).1.frame (box1 w _) (fun _ _ h => h)) (unhide H).2.1 (enters Tryd.func85 (by kernel_rfl) (by kernel_rfl) _) (fun wk sv hf hr => rF32_clo b s.place s.place ⟨w.heap.size, 0, none⟩ er s.nm sv s.all E wk hlo (((unhide H).2.2.1.fr0 (box1 w _)).frb hf hlo) (((unhide H).2.2.2.fr0 (box1 w _)).fr hf (fun k e => by have h' : k = b := e; omega)) hr (by show w.heap.size ≠ b; omega) ((hf.cell (by simp) (by show ¬ w.heap.size = b; omega)).trans (by simp)) hl hq)).mono ?_
  rintro e w' ⟨rfl, hR, hf⟩
  have HR := hide (And.intro hR hf)
  clear hR hf
  go_wp2_with fail
  go_ret
  exact ⟨rfl, (unhide HR).1, ((box1 w _).mono (fun _ _ h => h.elim)).trans (unhide HR).2 (fun _ _ h => h)⟩

/-- Name, of a reader that has not given up. -/
theorem rName_ok (b : Nat) (x : ByteArray) (F : Nat → Prop) (s : Rst) (w : World) (h : R w b F s) (hn : s.f = none) :
    Calls Tryd.prog 49 #[.pointer (some ⟨b, 0, none⟩), .string x] w fun e w' => e = .returned (.tuple #[]) ∧ R w' b F { s with nm := x } ∧ Fr (fun k => k = b) w w' := by
  obtain ⟨sv, hr, hF⟩ := h.rc hn
  have h0 := hr.c0
  have z0 := hr.fz 0
  have H := hide (And.intro h (And.intro hn (And.intro hr hF)))
  clear h hn hr hF
  go_enter Tryd.func49, Tryd.ntmps49
  go_wp2
  go_end0
  have hc : ∀ i, i ≠ 0 → (w.setCell ⟨b, 0, none⟩ (.string x)).cell? ⟨b, i, none⟩ = w.cell? ⟨b, i, none⟩ := fun i hi => World.cell?_setCell_other _ _ _ _ (by intro h; injection h with _ h2 _; exact hi h2.symm)
  obtain ⟨h, hn, hr, hF⟩ := unhide H
  have hf : Fr (fun k => k = b) w (w.setCell ⟨b, 0, none⟩ (.string x)) := Fr.setCell (S := fun k => k = b) (Fr.refl _ _) (.inl rfl) _
  refine ⟨rfl, ⟨fun k hk => by rw [World.size_setCell]; exact h.lt k hk, h.lo, h.fb, .inl ⟨hn, sv, ⟨World.cell?_setCell_same _ _ _ h0, (hc 1 (by decide)).trans hr.c1, (hc 2 (by decide)).trans hr.c2, (hc 3 (by decide)).trans hr.c3, (hc 4 (by decide)).trans hr.c4, fun i => by rw [World.frozen?_setCell]; exact hr.fz i, hr.src.fr hf (fun g o m c e => (hr.ns g o m c e).1), hr.ns, hr.le⟩, hF⟩⟩, hf⟩
end Go.Proofs.YtikolmpgnpkdbaaDoor

namespace Go.Proofs.YtikolmpgnpkdbaaDoor
open Go.RowKit

theorem box1b (w : World) (b : Nat) (a : Obj) : Fr (fun k => k = b) w (w.alloc a) := (box1 w a).mono (fun _ _ h => h.elim)

set_option maxRecDepth 100000 in
theorem rd1_ok (b u : Nat) (t : ByteArray) (n m : Int) (F : Nat → Prop) (s : Rst) (E : Nat → Addr) (w : World) (hg : Gl w E) (h : R w b F s) (hn : s.f = none) (hl : 1 + s.place ≤ s.all.length) :
    Calls Tryd.prog 16 #[.pointer (some ⟨b, 0, none⟩), .agg #[.int .i64 1, .int .u64 u, .string t, .int .i64 n, .int .i64 m]] w fun e w' => e = .returned (.tuple #[.int .u64 (val ((s.all.drop s.place).take 1)), .slice none 0 0]) ∧ R w' b F { s with place := s.place + 1, part := s.place } ∧ Fr (fun k => k = b) w w' := by
  have H := hide (And.intro h (And.intro hn hg))
  have hlt : val ((s.all.drop s.place).take 1) < 256 := by
    have h1 := val_lt ((s.all.drop s.place).take 1)
    have h2 : ((s.all.drop s.place).take 1).length = 1 := by simp; omega
    rw [h2] at h1; exact h1
  clear h hn hg
  go_enter Tryd.func16, Tryd.ntmps16
  go_wp2_with fail
  refine (rU8_ok b F s E _ ((unhide H).2.2.fr0 (box1 w _)) ((unhide H).1.frame (box1 w _) (fun _ _ h => h)) (unhide H).2.1 hl).mono ?_
  rintro e w' ⟨rfl, hR, hf⟩
  have HR := hide (And.intro hR hf)
  clear hR hf
  generalize hy : val ((s.all.drop s.place).take 1) = y at *
  go_wp2_with fail
  go_ret2
  subst hy
  exact ⟨rfl, (unhide HR).1, (box1b w b _).trans (unhide HR).2 (fun _ _ h => h)⟩
set_option maxRecDepth 100000 in
theorem rd2_ok (b u : Nat) (t : ByteArray) (n m : Int) (F : Nat → Prop) (s : Rst) (E : Nat → Addr) (w : World) (hg : Gl w E) (h : R w b F s) (hn : s.f = none) (hl : 2 + s.place ≤ s.all.length) :
    Calls Tryd.prog 16 #[.pointer (some ⟨b, 0, none⟩), .agg #[.int .i64 2, .int .u64 u, .string t, .int .i64 n, .int .i64 m]] w fun e w' => e = .returned (.tuple #[.int .u64 (val ((s.all.drop s.place).take 2)), .slice none 0 0]) ∧ R w' b F { s with place := s.place + 2, part := s.place } ∧ Fr (fun k => k = b) w w' := by
  have H := hide (And.intro h (And.intro hn hg))
  have hlt : val ((s.all.drop s.place).take 2) < 65536 := by
    have h1 := val_lt ((s.all.drop s.place).take 2)
    have h2 : ((s.all.drop s.place).take 2).length = 2 := by simp; omega
    rw [h2] at h1; exact h1
  clear h hn hg
  go_enter Tryd.func16, Tryd.ntmps16
  go_wp2_with fail
  refine (rU16_ok b F s E _ ((unhide H).2.2.fr0 (box1 w _)) ((unhide H).1.frame (box1 w _) (fun _ _ h => h)) (unhide H).2.1 hl).mono ?_
  rintro e w' ⟨rfl, hR, hf⟩
  have HR := hide (And.intro hR hf)
  clear hR hf
  generalize hy : val ((s.all.drop s.place).take 2) = y at *
  go_wp2_with fail
  go_ret2
  subst hy
  exact ⟨rfl, (unhide HR).1, (box1b w b _).trans (unhide HR).2 (fun _ _ h => h)⟩
set_option maxRecDepth 100000 in
theorem rd4_ok (b u : Nat) (t : ByteArray) (n m : Int) (F : Nat → Prop) (s : Rst) (E : Nat → Addr) (w : World) (hg : Gl w E) (h : R w b F s) (hn : s.f = none) (hl : 4 + s.place ≤ s.all.length) :
    Calls Tryd.prog 16 #[.pointer (some ⟨b, 0, none⟩), .agg #[.int .i64 4, .int .u64 u, .string t, .int .i64 n, .int .i64 m]] w fun e w' => e = .returned (.tuple #[.int .u64 (val ((s.all.drop s.place).take 4)), .slice none 0 0]) ∧ R w' b F { s with place := s.place + 4, part := s.place } ∧ Fr (fun k => k = b) w w' := by
  have H := hide (And.intro h (And.intro hn hg))
  have hlt : val ((s.all.drop s.place).take 4) < 4294967296 := by
    have h1 := val_lt ((s.all.drop s.place).take 4)
    have h2 : ((s.all.drop s.place).take 4).length = 4 := by simp; omega
    rw [h2] at h1; exact h1
  clear h hn hg
  go_enter Tryd.func16, Tryd.ntmps16
  go_wp2_with fail
  refine (rU32_ok b F s E _ ((unhide H).2.2.fr0 (box1 w _)) ((unhide H).1.frame (box1 w _) (fun _ _ h => h)) (unhide H).2.1 hl).mono ?_
  rintro e w' ⟨rfl, hR, hf⟩
  have HR := hide (And.intro hR hf)
  clear hR hf
  generalize hy : val ((s.all.drop s.place).take 4) = y at *
  go_wp2_with fail
  go_ret2
  subst hy
  exact ⟨rfl, (unhide HR).1, (box1b w b _).trans (unhide HR).2 (fun _ _ h => h)⟩
set_option maxRecDepth 100000 in
theorem rd8_ok (b u : Nat) (t : ByteArray) (n m : Int) (F : Nat → Prop) (s : Rst) (E : Nat → Addr) (w : World) (hg : Gl w E) (h : R w b F s) (hn : s.f = none) (hl : 8 + s.place ≤ s.all.length) :
    Calls Tryd.prog 16 #[.pointer (some ⟨b, 0, none⟩), .agg #[.int .i64 8, .int .u64 u, .string t, .int .i64 n, .int .i64 m]] w fun e w' => e = .returned (.tuple #[.int .u64 (val ((s.all.drop s.place).take 8)), .slice none 0 0]) ∧ R w' b F { s with place := s.place + 8, part := s.place } ∧ Fr (fun k => k = b) w w' := by
  have H := hide (And.intro h (And.intro hn hg))
  have hlt : val ((s.all.drop s.place).take 8) < 18446744073709551616 := by
    have h1 := val_lt ((s.all.drop s.place).take 8)
    have h2 : ((s.all.drop s.place).take 8).length = 8 := by simp; omega
    rw [h2] at h1; exact h1
  clear h hn hg
  go_enter Tryd.func16, Tryd.ntmps16
  go_wp2_with fail
  refine (rU64_ok b F s E _ ((unhide H).2.2.fr0 (box1 w _)) ((unhide H).1.frame (box1 w _) (fun _ _ h => h)) (unhide H).2.1 hl).mono ?_
  rintro e w' ⟨rfl, hR, hf⟩
  have HR := hide (And.intro hR hf)
  clear hR hf
  generalize hy : val ((s.all.drop s.place).take 8) = y at *
  go_wp2_with fail
  go_ret2
  subst hy
  exact ⟨rfl, (unhide HR).1, (box1b w b _).trans (unhide HR).2 (fun _ _ h => h)⟩

set_option maxRecDepth 100000 in
theorem rd7_ok (b u : Nat) (t : ByteArray) (n m : Int) (F : Nat → Prop) (s : Rst) (E : Nat → Addr) (w : World) (hm : m < 9223372036854775808) (hg : Gl w E) (h : R w b F s) (hn : s.f = none) (hl : 4 + s.place ≤ s.all.length) (hv : (val ((s.all.drop s.place).take 4) : Int) ≤ m) :
    Calls Tryd.prog 16 #[.pointer (some ⟨b, 0, none⟩), .agg #[.int .i64 7, .int .u64 u, .string t, .int .i64 n, .int .i64 m]] w fun e w' => e = .returned (.tuple #[.int .u64 (val ((s.all.drop s.place).take 4)), .slice none 0 0]) ∧ R w' b F { s with place := s.place + 4, part := s.place } ∧ Fr (fun k => k = b) w w' := by
  have H := hide (And.intro h (And.intro hn hg))
  have hlt : val ((s.all.drop s.place).take 4) < 4294967296 := by
    have h1 := val_lt ((s.all.drop s.place).take 4)
    have h2 : ((s.all.drop s.place).take 4).length = 4 := by simp; omega
    rw [h2] at h1; exact h1
  clear h hn hg
  go_enter Tryd.func16, Tryd.ntmps16
  go_wp2_with fail
  refine (rCount_ok b m F s E _ hm ((unhide H).2.2.fr0 (box1 w _)) ((unhide H).1.frame (box1 w _) (fun _ _ h => h)) (unhide H).2.1 hl hv).mono ?_
  rintro e w' ⟨rfl, hR, hf⟩
  have HR := hide (And.intro hR hf)
  clear hR hf
  generalize hy : val ((s.all.drop s.place).take 4) = y at *
  have hw : IntKind.u64.wrap (y : Int) = (y : Int) := by rw [IntKind.wrap_u64]; omega
  go_wp2_with fail
  go_ret2
  subst hy
  exact ⟨rfl, (unhide HR).1, (box1b w b _).trans (unhide HR).2 (fun _ _ h => h)⟩

set_option maxRecDepth 100000 in
theorem rd5_ok (b u : Nat) (t : ByteArray) (n m : Int) (F : Nat → Prop) (s : Rst) (E : Nat → Addr) (er : Addr) (w : World) (hg : Gl w E) (hr : Rg w er) (h : R w b F s) (hn : s.f = none) (hl : 4 + s.place ≤ s.all.length) (hq : quantB (val ((s.all.drop s.place).take 4)) = true) :
    Calls Tryd.prog 16 #[.pointer (some ⟨b, 0, none⟩), .agg #[.int .i64 5, .int .u64 u, .string t, .int .i64 n, .int .i64 m]] w fun e w' => e = .returned (.tuple #[.int .u64 (val ((s.all.drop s.place).take 4)), .slice none 0 0]) ∧ R w' b F { s with place := s.place + 4, part := s.place } ∧ Fr (fun k => k = b) w w' := by
  have H := hide (And.intro h (And.intro hn (And.intro hg hr)))
  have hlt : val ((s.all.drop s.place).take 4) < 4294967296 := by
    have h1 := val_lt ((s.all.drop s.place).take 4)
    have h2 : ((s.all.drop s.place).take 4).length = 4 := by simp; omega
    rw [h2] at h1; exact h1
  clear h hn hg hr
  have hfb := Tryd.fbits
  go_enter Tryd.func16, Tryd.ntmps16
  go_wp2_with fail
  refine (rF32_ok b F s E er _ ((unhide H).2.2.1.fr0 (box1 w _)) ((unhide H).2.2.2.fr0 (box1 w _)) ((unhide H).1.frame (box1 w _) (fun _ _ h => h)) (unhide H).2.1 hl hq).mono ?_
  rintro e w' ⟨rfl, hR, hf⟩
  have HR := hide (And.intro hR hf)
  clear hR hf
  generalize hy : val ((s.all.drop s.place).take 4) = y at *
  go_wp2_with fail
  go_ret2
  subst hy
  exact ⟨rfl, (unhide HR).1, (box1b w b _).trans (unhide HR).2 (fun _ _ h => h)⟩

set_option maxRecDepth 100000 in
theorem rd10_ok (b u : Nat) (t : ByteArray) (n m : Int) (F : Nat → Prop) (s : Rst) (w : World) (h : R w b F s) (hn : s.f = none) :
    Calls Tryd.prog 16 #[.pointer (some ⟨b, 0, none⟩), .agg #[.int .i64 10, .int .u64 u, .string t, .int .i64 n, .int .i64 m]] w fun e w' => e = .returned (.tuple #[.int .u64 0, .slice none 0 0]) ∧ R w' b F { s with nm := t } ∧ Fr (fun k => k = b) w w' := by
  have H := hide (And.intro h hn)
  clear h hn
  go_enter Tryd.func16, Tryd.ntmps16
  go_wp2_with fail
  refine (rName_ok b t F s _ ((unhide H).1.frame (box1 w _) (fun _ _ h => h)) (unhide H).2).mono ?_
  rintro e w' ⟨rfl, hR, hf⟩
  have HR := hide (And.intro hR hf)
  clear hR hf
  go_wp2_with fail
  go_ret2
  exact ⟨rfl, (unhide HR).1, (box1b w b _).trans (unhide HR).2 (fun _ _ h => h)⟩

set_option maxRecDepth 100000 in
theorem rd6t_ok (b u x : Nat) (t : ByteArray) (n m : Int) (F : Nat → Prop) (s : Rst) (E : Nat → Addr) (w : World) (hp : (n.tmod 2 == 0) = true) (hm : m < 9223372036854775808) (hg : Gl w E) (h : R w b F s) (hn : s.f = none) (hx : val ((s.all.drop s.place).take 4) = x) (hl : 4 + s.place ≤ s.all.length) (hv : (x : Int) ≤ m) (hxl : x + (s.place + 4) ≤ s.all.length) :
    Calls Tryd.prog 16 #[.pointer (some ⟨b, 0, none⟩), .agg #[.int .i64 6, .int .u64 u, .string t, .int .i64 n, .int .i64 m]] w fun e w' => ∃ c l', e = .returned (.tuple #[.int .u64 0, c]) ∧ Src w' c l' ∧ strOf l' = strOf ((s.all.drop (s.place + 4)).take x) ∧ R w' b F { s with place := s.place + 4 + x, part := s.place } ∧ Fr (fun k => k = b) w w' := by
  have H := hide (And.intro h (And.intro hn hg))
  have HX := hide hx
  clear h hn hg hx
  go_enter Tryd.func16, Tryd.ntmps16
  go_wp2_with fail
  refine (rText_ok b x m F s E _ hm ((unhide H).2.2.fr0 (box1 w _)) ((unhide H).1.frame (box1 w _) (fun _ _ h => h)) (unhide H).2.1 (unhide HX) hl hv hxl).mono ?_
  rintro e w1 ⟨rfl, hR, hf⟩
  obtain ⟨cap, w2, hcv, hsrc, hf2⟩ := conv_bytes w1 (strOf ((s.all.drop (s.place + 4)).take x))
  have HR := hide (And.intro hR (And.intro hf (And.intro hsrc hf2)))
  clear hR hf hsrc hf2
  go_wp2_with fail
  go_ret2
  exact ⟨_, _, rfl, (unhide HR).2.2.1, strOf_bytesOf _, (unhide HR).1.frame (unhide HR).2.2.2 (fun _ _ h => h), ((box1b w b _).trans (unhide HR).2.1 (fun _ _ h => h)).trans (unhide HR).2.2.2 (fun _ _ h => h.elim)⟩

set_option maxRecDepth 100000 in
theorem rd6b_ok (b u x : Nat) (t : ByteArray) (n m : Int) (F : Nat → Prop) (s : Rst) (E : Nat → Addr) (w : World) (hp : (n.tmod 2 == 0) = false) (hm : m < 9223372036854775808) (hg : Gl w E) (h : R w b F s) (hn : s.f = none) (hx : val ((s.all.drop s.place).take 4) = x) (hl : 4 + s.place ≤ s.all.length) (hv : (x : Int) ≤ m) (hxl : x + (s.place + 4) ≤ s.all.length) (hal : s.all.length ≤ 140737488355328) :
    Calls Tryd.prog 16 #[.pointer (some ⟨b, 0, none⟩), .agg #[.int .i64 6, .int .u64 u, .string t, .int .i64 n, .int .i64 m]] w fun e w' => ∃ c l', e = .returned (.tuple #[.int .u64 0, c]) ∧ Src w' c l' ∧ strOf l' = strOf ((s.all.drop (s.place + 4)).take x) ∧ R w' b F { s with place := s.place + 4 + x, part := s.place } ∧ Fr (fun k => k = b) w w' := by
  have H := hide (And.intro h (And.intro hn hg))
  have HX := hide hx
  clear h hn hg hx
  go_enter Tryd.func16, Tryd.ntmps16
  go_wp2_with fail
  refine (rBytes_ok b x m F s E _ hm ((unhide H).2.2.fr0 (box1 w _)) ((unhide H).1.frame (box1 w _) (fun _ _ h => h)) (unhide H).2.1 (unhide HX) hl hv hxl hal).mono ?_
  rintro e w1 ⟨ao, cap, rfl, hown, hR, hf⟩
  have hlen : ((s.all.drop (s.place + 4)).take x).length = x := by simp; omega
  have hsrc : Src w1 (.slice ao x cap) ((s.all.drop (s.place + 4)).take x) := own_src (by rw [hlen]; exact hown)
  have HR := hide (And.intro hR (And.intro hf hsrc))
  clear hR hf hsrc hown
  go_wp2_with fail
  go_ret2
  exact ⟨_, _, rfl, (unhide HR).2.2, rfl, (unhide HR).1, (box1b w b _).trans (unhide HR).2.1 (fun _ _ h => h)⟩
end Go.Proofs.YtikolmpgnpkdbaaDoor

namespace Go.Proofs.YtikolmpgnpkdbaaDoor
open Go.RowKit

theorem fk_mem' (k : Int) : fk k ∈ kinds := by
  unfold fk
  split
  · assumption
  · decide
/-- The bytes of a call that is laid. -/
def enc (p : Pt) : List Nat := if p.k = 1 then be 1 (p.u % 256) else if p.k = 2 then be 2 (p.u % 65536) else if p.k = 4 then be 4 (p.u % 4294967296) else if p.k = 8 then be 8 p.u else if p.k = 6 then be 4 p.s.size ++ bytesOf p.s else if p.k = 7 then be 4 p.n.toNat else []
def good (p : Pt) : Prop := (p.k = 6 → p.s.size < 4294967296) ∧ (p.k = 7 → 0 ≤ p.n ∧ p.n < 4294967296)
theorem putB_none {st : Wst} {x : List Nat} (h : (st.putB x).f = none) : st.f = none ∧ (st.putB x).l = st.l ++ x := by
  unfold Wst.putB at *
  split at h
  · rename_i hn
    rw [if_pos hn]
    exact ⟨hn, rfl⟩
  · rename_i hn
    exact absurd h hn
theorem fail_none {st : Wst} {ea : Addr} (h : (st.fail ea).f = none) : False := by
  unfold Wst.fail at h
  split at h
  · cases h
  · rename_i hn
    exact hn h
theorem lay_none {st : Wst} {p : Pt} {ea er : Addr} (h : (st.lay p ea er).f = none) : st.f = none ∧ (st.lay p ea er).l = st.l ++ enc p ∧ good p := by
  obtain ⟨k, u, s, n, m⟩ := p
  unfold Wst.lay enc good at *
  simp only at *
  by_cases h1 : k = 1
  · subst h1; simp only [if_true] at h ⊢; exact ⟨(putB_none h).1, (putB_none h).2, by simp⟩
  by_cases h2 : k = 2
  · subst h2; simp at h ⊢; exact ⟨(putB_none h).1, (putB_none h).2⟩
  by_cases h4 : k = 4
  · subst h4; simp at h ⊢; exact ⟨(putB_none h).1, (putB_none h).2⟩
  by_cases h8 : k = 8
  · subst h8; simp at h ⊢; exact ⟨(putB_none h).1, (putB_none h).2⟩
  by_cases h6 : k = 6
  · subst h6
    simp [Wst.txt] at h ⊢
    split at h
    · rename_i hc
      rw [if_pos hc]
      exact ⟨(putB_none h).1, (putB_none h).2, hc.2⟩
    · exact (fail_none h).elim
  by_cases h7 : k = 7
  · subst h7
    simp [Wst.cnt] at h ⊢
    split at h
    · exact (fail_none h).elim
    · rename_i h0
      rw [if_neg h0]
      split at h
      · rename_i hc
        rw [if_pos hc]
        exact ⟨(putB_none h).1, (putB_none h).2, by omega, hc.2⟩
      · exact (fail_none h).elim
  · simp only [h1, h2, h4, h8, h6, h7, if_false] at h ⊢
    exact ⟨h, by simp, by simp⟩
theorem val_norm (l : List Nat) : val (norm l) = val l := by
  unfold val norm
  rw [List.foldl_map]
  simp
theorem val_be1 (u : Nat) : val (be 1 u) = u % 256 := by simp [be, val]
theorem val_be2 (u : Nat) : val (be 2 u) = u % 65536 := by simp [be, val, List.range_succ]; omega
theorem val_be4' (u : Nat) : val (be 4 u) = u % 4294967296 := by simp [be, val, List.range_succ]; omega
theorem val_be8 (u : Nat) : val (be 8 u) = u % 18446744073709551616 := by simp [be, val, List.range_succ]; omega
theorem norm_append (a b : List Nat) : norm (a ++ b) = norm a ++ norm b := by simp [norm]
theorem norm_length (a : List Nat) : (norm a).length = a.length := by simp [norm]
theorem norm_inj {a a' r r' : List Nat} (hl : a.length = a'.length) (h : norm (a ++ r) = norm (a' ++ r')) : norm a = norm a' ∧ norm r = norm r' := by
  rw [norm_append, norm_append] at h
  exact List.append_inj h (by rw [norm_length, norm_length, hl])
theorem val_of_norm {a a' : List Nat} (h : norm a = norm a') : val a = val a' := by rw [← val_norm a, ← val_norm a', h]
theorem norm_bytesOf (s : ByteArray) : norm (bytesOf s) = bytesOf s := by
  simp only [norm, bytesOf, List.map_map]
  apply List.map_congr_left
  intro c _
  have : c.toNat < 256 := c.toNat_lt
  simp [Nat.mod_eq_of_lt this]
def start : Wst := ⟨ByteArray.empty, [], none⟩
def run (l : List Pt) (ea er : Addr) : Wst := l.foldl (fun st p => st.lay p.fit ea er) start
/-- Two calls of one kind that lay the same. -/
def eqv (p q : Pt) : Bool := if p.k = 6 then p.s.toList == q.s.toList else if p.k = 7 then p.n == q.n else if p.k = 8 then p.u == q.u else if p.k = 4 then p.u % 4294967296 == q.u % 4294967296 else if p.k = 2 then p.u % 65536 == q.u % 65536 else p.u % 256 == q.u % 256
def eqvs (A B : List Pt) (k : Nat) : Bool := ((A.zip B).take k).all fun x => eqv x.1.fit x.2.fit

theorem run_none_from (l : List Pt) (ea er : Addr) : ∀ st : Wst, (l.foldl (fun st p => st.lay p.fit ea er) st).f = none → st.f = none ∧ (l.foldl (fun st p => st.lay p.fit ea er) st).l = st.l ++ (l.map fun p => enc p.fit).flatten ∧ ∀ p ∈ l, good p.fit := by
  induction l with
  | nil => intro st h; exact ⟨h, by simp, by simp⟩
  | cons p r ih =>
    intro st h
    simp only [List.foldl_cons] at h ⊢
    obtain ⟨h1, h2, h3⟩ := ih _ h
    obtain ⟨g1, g2, g3⟩ := lay_none h1
    refine ⟨g1, ?_, ?_⟩
    · rw [h2, g2]; simp
    · intro q hq
      rcases List.mem_cons.1 hq with rfl | hq
      · exact g3
      · exact h3 q hq
theorem run_none {l : List Pt} {ea er : Addr} (h : (run l ea er).f = none) : (run l ea er).l = (l.map fun p => enc p.fit).flatten ∧ ∀ p ∈ l, good p.fit := by
  obtain ⟨_, h2, h3⟩ := run_none_from l ea er start h
  exact ⟨by simpa [run, start] using h2, h3⟩

theorem bytesOf_inj {s s' : ByteArray} (h : bytesOf s = bytesOf s') : s.toList = s'.toList := by
  rw [ByteArray.toList_eq, ByteArray.toList_eq]
  unfold bytesOf at h
  exact List.map_inj_right (fun a b e => UInt8.toNat_inj.1 e) |>.1 h

theorem head_inj {a b : Pt} {r r' : List Nat} (hk : a.k = b.k) (hr : a.k = 1 ∨ a.k = 2 ∨ a.k = 4 ∨ a.k = 8 ∨ a.k = 6 ∨ a.k = 7) (ga : good a) (gb : good b) (oa : a.u < 18446744073709551616) (ob : b.u < 18446744073709551616) :
    norm (enc a ++ r) = norm (enc b ++ r') ↔ eqv a b = true ∧ norm r = norm r' := by
  obtain ⟨k, u, s, n, m⟩ := a
  obtain ⟨k', u', s', n', m'⟩ := b
  simp only at hk hr oa ob
  subst hk
  unfold good at ga gb
  rcases hr with rfl | rfl | rfl | rfl | rfl | rfl
  · simp only [enc, eqv, if_true]
    constructor
    · intro h
      obtain ⟨h1, h2⟩ := norm_inj (by simp [be_length]) h
      have := val_of_norm h1
      rw [val_be1, val_be1] at this
      refine ⟨?_, h2⟩
      simp; omega
    · rintro ⟨h1, h2⟩
      simp at h1
      rw [h1, norm_append, norm_append, h2]
  · simp [enc, eqv]
    constructor
    · intro h
      obtain ⟨h1, h2⟩ := norm_inj (by simp [be_length]) h
      have := val_of_norm h1
      rw [val_be2, val_be2] at this
      exact ⟨by omega, h2⟩
    · rintro ⟨h1, h2⟩
      rw [h1, norm_append, norm_append, h2]
  · simp [enc, eqv]
    constructor
    · intro h
      obtain ⟨h1, h2⟩ := norm_inj (by simp [be_length]) h
      have := val_of_norm h1
      rw [val_be4', val_be4'] at this
      exact ⟨by omega, h2⟩
    · rintro ⟨h1, h2⟩
      rw [h1, norm_append, norm_append, h2]
  · simp [enc, eqv]
    constructor
    · intro h
      obtain ⟨h1, h2⟩ := norm_inj (by simp [be_length]) h
      have := val_of_norm h1
      rw [val_be8, val_be8] at this
      exact ⟨by omega, h2⟩
    · rintro ⟨h1, h2⟩
      rw [h1, norm_append, norm_append, h2]
  · have g1 : s.size < 4294967296 := ga.1 rfl
    have g2 : s'.size < 4294967296 := gb.1 rfl
    simp only [enc, eqv]
    simp only [show ¬ ((6 : Int) = 1) by decide, show ¬ ((6 : Int) = 2) by decide, show ¬ ((6 : Int) = 4) by decide, show ¬ ((6 : Int) = 8) by decide, if_false, if_true, List.append_assoc]
    constructor
    · intro h
      obtain ⟨h1, h2⟩ := norm_inj (by simp [be_length]) h
      have := val_of_norm h1
      rw [val_be4', val_be4'] at this
      obtain ⟨h3, h4⟩ := norm_inj (by rw [bytesOf_length, bytesOf_length]; omega) h2
      rw [norm_bytesOf, norm_bytesOf] at h3
      exact ⟨by rw [bytesOf_inj h3]; simp, h4⟩
    · rintro ⟨h1, h2⟩
      have e : s = s' := by
        have h3 : s.toList = s'.toList := by simpa using h1
        rw [ByteArray.toList_eq, ByteArray.toList_eq] at h3
        cases s; cases s'
        congr 1
        exact Array.toList_inj.1 h3
      rw [e]
      simp only [norm_append, h2]
  · have g1 := ga.2 rfl
    have g2 := gb.2 rfl
    simp only at g1 g2
    simp [enc, eqv]
    constructor
    · intro h
      obtain ⟨h1, h2⟩ := norm_inj (by simp [be_length]) h
      have := val_of_norm h1
      rw [val_be4', val_be4'] at this
      exact ⟨by omega, h2⟩
    · rintro ⟨h1, h2⟩
      rw [h1, norm_append, norm_append, h2]

theorem flat_inj : ∀ (A B : List Pt), A.length = B.length → (∀ x ∈ A.zip B, x.1.fit.k = x.2.fit.k ∧ x.1.fit.k ≠ 5 ∧ x.1.fit.k ≤ 8) → (∀ p ∈ A, good p.fit ∧ p.u < 18446744073709551616) → (∀ p ∈ B, good p.fit ∧ p.u < 18446744073709551616) →
    (norm (A.map fun p => enc p.fit).flatten = norm (B.map fun p => enc p.fit).flatten ↔ ((A.zip B).all fun x => eqv x.1.fit x.2.fit) = true)
  | [], [], _, _, _, _ => by simp
  | [], _ :: _, h, _, _, _ => by simp at h
  | _ :: _, [], h, _, _, _ => by simp at h
  | a :: A, b :: B, h, hk, ga, gb => by
    have ih := flat_inj A B (by simpa using h) (fun x hx => hk x (by simp [List.zip_cons_cons, hx])) (fun p hp => ga p (by simp [hp])) (fun p hp => gb p (by simp [hp]))
    have k0 := hk (a, b) (by simp [List.zip_cons_cons])
    have hm : a.fit.k ∈ kinds := fk_mem' a.k
    have hr : a.fit.k = 1 ∨ a.fit.k = 2 ∨ a.fit.k = 4 ∨ a.fit.k = 8 ∨ a.fit.k = 6 ∨ a.fit.k = 7 := by
      simp only [kinds, List.mem_cons, List.not_mem_nil, or_false] at hm
      obtain ⟨k1, k2, k3⟩ := k0
      simp only at k1 k2 k3
      omega
    simp only [List.map_cons, List.flatten_cons, List.zip_cons_cons, List.all_cons, Bool.and_eq_true]
    rw [head_inj k0.1 hr (ga a (by simp)).1 (gb b (by simp)).1 (ga a (by simp)).2 (gb b (by simp)).2, ih]

/-- Two lists of the same kinds that were laid whole have the same bytes just where they are the same. -/
theorem two_inj {A B : List Pt} {ea er : Addr} (hl : A.length = B.length) (hk : ∀ x ∈ A.zip B, x.1.fit.k = x.2.fit.k ∧ x.1.fit.k ≠ 5 ∧ x.1.fit.k ≤ 8) (oA : ∀ p ∈ A, p.u < 18446744073709551616) (oB : ∀ p ∈ B, p.u < 18446744073709551616)
    (hA : (run A ea er).f = none) (hB : (run B ea er).f = none) : sameB (run A ea er).l (run B ea er).l = ((A.zip B).all fun x => eqv x.1.fit x.2.fit) := by
  obtain ⟨a1, a2⟩ := run_none hA
  obtain ⟨b1, b2⟩ := run_none hB
  rw [Bool.eq_iff_iff, sameB, decide_eq_true_iff, a1, b1]
  exact flat_inj A B hl hk (fun p hp => ⟨a2 p hp, oA p hp⟩) (fun p hp => ⟨b2 p hp, oB p hp⟩)
end Go.Proofs.YtikolmpgnpkdbaaDoor

namespace Go.Proofs.YtikolmpgnpkdbaaDoor
open Go.RowKit

/-- A slice of calls, and what it holds. -/
def PSrc (w : World) (x : Value) (A : List Pt) : Prop :=
  (∃ xo c, x = .slice xo 0 c ∧ A = []) ∨ ∃ g o c, x = .slice (some ⟨g, o, none⟩) A.length c ∧ ∀ j (h : j < A.length), w.cell? ⟨g, o + j * 5, none⟩ = some (.int .i64 A[j].k) ∧ w.cell? ⟨g, o + j * 5 + 1, none⟩ = some (.int .u64 A[j].u) ∧ w.cell? ⟨g, o + j * 5 + 2, none⟩ = some (.string A[j].s) ∧ w.cell? ⟨g, o + j * 5 + 3, none⟩ = some (.int .i64 A[j].n) ∧ w.cell? ⟨g, o + j * 5 + 4, none⟩ = some (.int .i64 A[j].m)
theorem PSrc.form {w : World} {x : Value} {A : List Pt} (h : PSrc w x A) : ∃ xo c, x = .slice xo A.length c := by
  rcases h with ⟨xo, c, rfl, rfl⟩ | ⟨g, o, c, rfl, _⟩
  · exact ⟨xo, c, rfl⟩
  · exact ⟨_, c, rfl⟩
/-- One call of them, cell by cell, in a later world. -/
theorem PSrc.at_ {w w' : World} {xo : Option Addr} {n c : Nat} {A : List Pt} (h : PSrc w (.slice xo n c) A) (hf : Fr (fun _ => False) w w') (j : Nat) (hj : j < A.length) : ∃ g o, xo = some ⟨g, o, none⟩ ∧ w'.cell? ⟨g, o + j * 5, none⟩ = some (.int .i64 A[j].k) ∧ w'.cell? ⟨g, o + j * 5 + 1, none⟩ = some (.int .u64 A[j].u) ∧ w'.cell? ⟨g, o + j * 5 + 2, none⟩ = some (.string A[j].s) ∧ w'.cell? ⟨g, o + j * 5 + 3, none⟩ = some (.int .i64 A[j].n) ∧ w'.cell? ⟨g, o + j * 5 + 4, none⟩ = some (.int .i64 A[j].m) := by
  rcases h with ⟨xo', c', _, e⟩ | ⟨g, o, c', hx, hc⟩
  · subst e; simp at hj
  · simp only [Value.slice.injEq] at hx
    obtain ⟨h0, h1, h2, h3, h4⟩ := hc j hj
    exact ⟨g, o, hx.1, (hf.cell (lt_of_cell h0) (fun h => h)).trans h0, (hf.cell (lt_of_cell h1) (fun h => h)).trans h1, (hf.cell (lt_of_cell h2) (fun h => h)).trans h2, (hf.cell (lt_of_cell h3) (fun h => h)).trans h3, (hf.cell (lt_of_cell h4) (fun h => h)).trans h4⟩

def weight (l : List Pt) : Nat := (l.map fun p => 12 + p.s.size).sum
/-- Numbers in their bounds. -/
def Pt.ok (p : Pt) : Prop := p.u < 18446744073709551616 ∧ p.n < 9223372036854775808 ∧ p.m < 9223372036854775808

end Go.Proofs.YtikolmpgnpkdbaaDoor

namespace Go.Proofs.YtikolmpgnpkdbaaDoor
open Go.RowKit

theorem Fr.soak {S : Nat → Prop} {w a b : World} (h : Fr (fun _ => False) w a) (k : Fr S a b) (hS : ∀ i, S i → w.heap.size ≤ i) : Fr (fun _ => False) w b :=
  h.trans k (fun i hi hs => by have := hS i hs; omega)
theorem fk_mem (k : Int) : fk k ∈ kinds := by
  unfold fk
  split
  · assumption
  · decide
/-- A call in a box of its own. -/
def Box (w : World) (b : Nat) (p : Pt) : Prop := w.cell? ⟨b, 0, none⟩ = some (.int .i64 p.k) ∧ w.cell? ⟨b, 1, none⟩ = some (.int .u64 p.u) ∧ w.cell? ⟨b, 2, none⟩ = some (.string p.s) ∧ w.cell? ⟨b, 3, none⟩ = some (.int .i64 p.n) ∧ w.cell? ⟨b, 4, none⟩ = some (.int .i64 p.m)
theorem box_new (w : World) (p : Pt) : Box (w.alloc (.cells #[.int .i64 p.k, .int .u64 p.u, .string p.s, .int .i64 p.n, .int .i64 p.m] 31)) w.heap.size p := by simp [Box]
theorem Box.fr {w w' : World} {b : Nat} {p : Pt} {S : Nat → Prop} (h : Box w b p) (hf : Fr S w w') (hS : ¬ S b) : Box w' b p := by
  obtain ⟨h0, h1, h2, h3, h4⟩ := h
  have hb : b < w.heap.size := lt_of_cell h0
  exact ⟨(hf.cell hb hS).trans h0, (hf.cell hb hS).trans h1, (hf.cell hb hS).trans h2, (hf.cell hb hS).trans h3, (hf.cell hb hS).trans h4⟩
/-- Two writers beside one another, k calls done. -/
def Inv2 (w wr : World) (b1 b2 : Nat) (A B : List Pt) (k : Nat) (ea er : Addr) : Prop :=
  ∃ F1 F2, W wr b1 F1 (run (A.take k) ea er) ∧ W wr b2 F2 (run (B.take k) ea er) ∧ Fr (fun _ => False) w wr ∧ (∀ i, F1 i → ¬ F2 i) ∧ (∀ i, F1 i → w.heap.size ≤ i) ∧ (∀ i, F2 i → w.heap.size ≤ i) ∧ ∀ x ∈ (A.zip B).take k, x.1.fit.k = x.2.fit.k ∧ x.1.fit.k ≠ 5 ∧ x.1.fit.k ≤ 8

theorem run_snoc (l : List Pt) (k : Nat) (h : k < l.length) (ea er : Addr) : run (l.take (k + 1)) ea er = (run (l.take k) ea er).lay l[k].fit ea er := by
  rw [List.take_add_one, List.getElem?_eq_getElem h, Option.toList_some]
  unfold run
  rw [List.foldl_append]
  rfl
theorem inv_step {w wr wC w6 w7 : World} {b1 b2 k : Nat} {A B : List Pt} {ea er : Addr} {F1 F2 F1' F2' : Nat → Prop} {p q : Pt} (ha : k < A.length) (hb : k < B.length) (hp : A[k].fit = p) (hq : B[k].fit = q) (hk : p.k = q.k) (h5 : p.k ≠ 5) (h8 : p.k ≤ 8)
    (hkd : ∀ x ∈ (A.zip B).take k, x.1.fit.k = x.2.fit.k ∧ x.1.fit.k ≠ 5 ∧ x.1.fit.k ≤ 8)
    (hW1 : W w6 b1 F1' ((run (A.take k) ea er).lay p ea er)) (hW2 : W w7 b2 F2' ((run (B.take k) ea er).lay q ea er)) (hA6 : Fr (fun _ => False) w w6) (hC : Fr (fun _ => False) wr wC) (hc1 : Ch wC w6 F1 F1') (hc2 : Ch w6 w7 F2 F2')
    (hdj : ∀ i, F1 i → ¬ F2 i) (hn1 : ∀ i, F1 i → w.heap.size ≤ i) (hn2 : ∀ i, F2 i → w.heap.size ≤ i) (lt2 : ∀ i, F2 i → i < wr.heap.size) (hwr : w.heap.size ≤ wr.heap.size) : Inv2 w w7 b1 b2 A B (k + 1) ea er := by
  have hd1 : ∀ i, F1' i → ¬ F2 i := fun i h1 h2 => by
    rcases hc1.new i h1 with hx | hx
    · exact hdj i hx h2
    · have := lt2 i h2; have := hC.size; omega
  have hs := hc1.fr.size
  refine ⟨F1', F2', ?_, ?_, hA6.soak hc2.fr hn2, ?_, ?_, ?_, ?_⟩
  · rw [run_snoc A k ha, hp]; exact hW1.frame hc2.fr hd1
  · rw [run_snoc B k hb, hq]; exact hW2
  · intro i h1 h2
    rcases hc2.new i h2 with hx | hx
    · exact hd1 i h1 hx
    · have := hW1.lt i h1; omega
  · intro i h1
    rcases hc1.new i h1 with hx | hx
    · exact hn1 i hx
    · have := hC.size; omega
  · intro i h2
    rcases hc2.new i h2 with hx | hx
    · exact hn2 i hx
    · have := hC.size; omega
  · intro x hx
    have hz : (A.zip B)[k]? = some (A[k], B[k]) := by rw [List.getElem?_zip_eq_some]; exact ⟨List.getElem?_eq_getElem ha, List.getElem?_eq_getElem hb⟩
    rw [List.take_add_one, hz, List.mem_append] at hx
    rcases hx with hx | hx
    · exact hkd x hx
    · simp at hx
      subst hx
      simp only [hp, hq]
      exact ⟨hk, h5, h8⟩
theorem and_mask (u k M : Nat) (hM : M = 2 ^ k - 1) (hk : k ≤ 64) (h : u < 18446744073709551616) : bits .and .u64 (u : Int) (M : Int) = ((u % 2 ^ k : Nat) : Int) := by
  have hp : 2 ^ k ≤ 2 ^ 64 := Nat.pow_le_pow_right (by decide) hk
  have h1 : 0 < 2 ^ k := Nat.two_pow_pos k
  have h64 : (2 : Nat) ^ 64 = 18446744073709551616 := by decide
  rw [u64_and_nat u M h (by omega), hM, Nat.and_two_pow_sub_one_eq_mod]
theorem cast_beq (a b : Nat) : (((a : Nat) : Int) == (b : Int)) = (a == b) := by
  rw [Bool.eq_iff_iff]; simp; omega
theorem ev1 {u v : Nat} {s s' : ByteArray} {n n' m m' : Int} (hu : u < 18446744073709551616) (hv : v < 18446744073709551616) : (bits .and .u64 (u : Int) 255 == bits .and .u64 (v : Int) 255) = eqv ⟨1, u, s, n, m⟩ ⟨1, v, s', n', m'⟩ := by
  rw [show (255 : Int) = ((255 : Nat) : Int) from rfl, and_mask u 8 255 (by decide) (by decide) hu, and_mask v 8 255 (by decide) (by decide) hv, cast_beq]; rfl
theorem ev2 {u v : Nat} {s s' : ByteArray} {n n' m m' : Int} (hu : u < 18446744073709551616) (hv : v < 18446744073709551616) : (bits .and .u64 (u : Int) 65535 == bits .and .u64 (v : Int) 65535) = eqv ⟨2, u, s, n, m⟩ ⟨2, v, s', n', m'⟩ := by
  rw [show (65535 : Int) = ((65535 : Nat) : Int) from rfl, and_mask u 16 65535 (by decide) (by decide) hu, and_mask v 16 65535 (by decide) (by decide) hv, cast_beq]; rfl
theorem ev4 {u v : Nat} {s s' : ByteArray} {n n' m m' : Int} (hu : u < 18446744073709551616) (hv : v < 18446744073709551616) : (bits .and .u64 (u : Int) 4294967295 == bits .and .u64 (v : Int) 4294967295) = eqv ⟨4, u, s, n, m⟩ ⟨4, v, s', n', m'⟩ := by
  rw [show (4294967295 : Int) = ((4294967295 : Nat) : Int) from rfl, and_mask u 32 4294967295 (by decide) (by decide) hu, and_mask v 32 4294967295 (by decide) (by decide) hv, cast_beq]; rfl
theorem ev8 {u v : Nat} {s s' : ByteArray} {n n' m m' : Int} : ((u : Int) == (v : Int)) = eqv ⟨8, u, s, n, m⟩ ⟨8, v, s', n', m'⟩ := by rw [cast_beq]; rfl
theorem ev6 {u v : Nat} {s s' : ByteArray} {n n' m m' : Int} : (s.toList == s'.toList) = eqv ⟨6, u, s, n, m⟩ ⟨6, v, s', n', m'⟩ := rfl
theorem ev7 {u v : Nat} {s s' : ByteArray} {n n' m m' : Int} : (n == n') = eqv ⟨7, u, s, n, m⟩ ⟨7, v, s', n', m'⟩ := rfl
theorem weight_mem {l : List Pt} {p : Pt} (h : p ∈ l) : 12 + p.s.size ≤ weight l := by
  induction l with
  | nil => cases h
  | cons q r ih =>
    simp only [weight, List.map_cons, List.sum_cons] at ih ⊢
    rcases List.mem_cons.1 h with rfl | h
    · omega
    · have := ih h
      omega
theorem weight_take (l : List Pt) (k : Nat) : weight (l.take k) ≤ weight l := by
  induction l generalizing k with
  | nil => simp [weight]
  | cons q r ih =>
    cases k with
    | zero => simp [weight]
    | succ k =>
      have := ih k
      simp only [weight, List.take_succ_cons, List.map_cons, List.sum_cons] at this ⊢
      omega
theorem putB_len (st : Wst) (x : List Nat) : (st.putB x).l.length ≤ st.l.length + x.length := by
  unfold Wst.putB; split <;> simp
theorem fail_len (st : Wst) (ea : Addr) : (st.fail ea).l.length = st.l.length := by
  unfold Wst.fail; split <;> rfl
theorem lay_len (st : Wst) (p : Pt) (ea er : Addr) : (st.lay p ea er).l.length ≤ st.l.length + (12 + p.s.size) := by
  unfold Wst.lay Wst.txt Wst.cnt
  have h1 := putB_len st (be 1 (p.u % 256))
  have h2 := putB_len st (be 2 (p.u % 65536))
  have h4 := putB_len st (be 4 (p.u % 4294967296))
  have h8 := putB_len st (be 8 p.u)
  have h6 := putB_len st (be 4 p.s.size ++ bytesOf p.s)
  have h7 := putB_len st (be 4 p.n.toNat)
  have f1 := fail_len st ea
  have f2 := fail_len st er
  simp only [be_length, List.length_append, bytesOf_length] at h1 h2 h4 h8 h6 h7
  repeat' split
  all_goals omega
theorem run_len_from (l : List Pt) (ea er : Addr) : ∀ st : Wst, (l.foldl (fun st p => st.lay p.fit ea er) st).l.length ≤ st.l.length + weight l := by
  induction l with
  | nil => intro st; simp [weight]
  | cons p r ih =>
    intro st
    have h1 := ih (st.lay p.fit ea er)
    have h2 := lay_len st p.fit ea er
    have h3 : p.fit.s = p.s := rfl
    rw [h3] at h2
    simp only [List.foldl_cons, weight, List.map_cons, List.sum_cons] at h1 ⊢
    omega
theorem run_len (l : List Pt) (ea er : Addr) : (run l ea er).l.length ≤ weight l := by
  have := run_len_from l ea er start
  simpa [run, start] using this
theorem fn_lt {k n : Int} (h : n < 9223372036854775808) : fn k n < 9223372036854775808 := by
  unfold fn; split <;> omega
theorem eqvs_snoc (A B : List Pt) (k : Nat) (ha : k < A.length) (hb : k < B.length) : eqvs A B (k + 1) = (eqvs A B k && eqv A[k].fit B[k].fit) := by
  have hz : (A.zip B)[k]? = some (A[k], B[k]) := by rw [List.getElem?_zip_eq_some]; exact ⟨List.getElem?_eq_getElem ha, List.getElem?_eq_getElem hb⟩
  unfold eqvs
  rw [List.take_add_one, hz, List.all_append]
  simp

set_option maxRecDepth 1000000 in
set_option maxHeartbeats 4000000 in
theorem two_any (x0 x1 : Value) (A B : List Pt) (E : Nat → Addr) (er : Addr) (w : World) (hg : Gl w E) (hr : Rg w er) (hw : 9 ≤ w.heap.size) (h0 : PSrc w x0 A) (h1 : PSrc w x1 B) (hA : weight A ≤ 16777216) (hB : weight B ≤ 16777216) (oA : ∀ p ∈ A, p.ok) (oB : ∀ p ∈ B, p.ok) (hAl : A.length ≤ 16777216) :
    Calls Tryd.prog 6 #[x0, x1] w fun e w' => e = .returned (.bool true) ∧ Fr (fun _ => False) w w' := by
  obtain ⟨ao0, ac0, rfl⟩ := h0.form
  obtain ⟨ao1, ac1, rfl⟩ := h1.form
  have HG := hide (And.intro hg (And.intro hr (And.intro h0 h1)))
  have HO := hide (And.intro oA oB)
  clear hg hr h0 h1 oA oB
  go_enter Tryd.func6, Tryd.ntmps6
  go_wp2_with fail
  refine (awake_any E w (unhide HG).1 hw).mono ?_
  rintro e w1 ⟨rfl, hf1⟩
  have A1 := hide hf1
  clear hf1
  go_wp2_with fail
  refine (newWriter_any w1 (Nat.le_trans hw (unhide A1).size)).mono ?_
  rintro e w2 ⟨rfl, hW2, hf2⟩
  have H2 := hide (And.intro hW2 hf2)
  clear hW2 hf2
  go_wp2_with fail
  have s2 := (unhide H2).1.lt _ (unhide H2).1.fb
  have s1 := (unhide A1).size
  refine (newWriter_any w2 (by omega)).mono ?_
  rintro e w3 ⟨rfl, hW3, hf3⟩
  have V3 := (unhide H2).1.frame hf3 (fun _ _ h => h)
  have A3 := ((unhide A1).trans (unhide H2).2 (fun _ _ h => h)).trans hf3 (fun _ _ h => h)
  have H3 := hide (And.intro V3 (And.intro hW3 A3))
  clear V3 hW3 A3 hf3 H2 A1
  by_cases hlen : A.length = B.length
  · have hl2 : ((A.length : Int) == (B.length : Int)) = true := by simp [hlen]
    have HLEN := hide hlen
    clear hlen
    go_wp2_with fail
    go_loopw [7, 8, 9] (fun lk sm i wr => ∃ k : Nat, k ≤ A.length ∧ i = .int .i64 k ∧ lk = .bool true ∧ sm = .bool (eqvs A B k) ∧ Inv2 w wr w1.heap.size w2.heap.size A B k (E 2) er) (fun _ _ i _ => A.length - (intOf i).toNat)
    case atStart => exact ⟨0, Nat.zero_le _, rfl, rfl, rfl, _, _, (unhide H3).1, (unhide H3).2.1, (unhide H3).2.2, fun i h1 h2 => by have e1 : i = w1.heap.size := h1; have e2 : i = w2.heap.size := h2; omega, fun i h1 => by have e1 : i = w1.heap.size := h1; omega, fun i h2 => by have e2 : i = w2.heap.size := h2; omega, fun x hx => by simp at hx⟩
    case round =>
      obtain ⟨k, hk, rfl, rfl, rfl, hinv⟩ := hrel
      have HI := hide hinv
      clear hinv
      rename World => wr
      by_cases hlt : k < A.length
      · have hltb : k < B.length := by have := unhide HLEN; omega
        have A4 : Fr (fun _ => False) w wr := by obtain ⟨_, _, _, _, h, _⟩ := unhide HI; exact h
        obtain ⟨g, o, rfl, c0, c1, c2, c3, c4⟩ := (unhide HG).2.2.1.at_ A4 k hlt
        obtain ⟨g', o', rfl, d0, d1, d2, d3, d4⟩ := (unhide HG).2.2.2.at_ A4 k hltb
        have HP := hide (And.intro (Eq.refl A[k]) (Eq.refl B[k]))
        generalize hP : A[k] = P at *
        generalize hQ : B[k] = Q at *
        have HPQ := hide (And.intro hP hQ)
        clear hP hQ HP
        have gl := lt_of_cell d0
        have A4' := hide A4
        clear A4
        go_wp2_with fail
        refine (fit_any P wr).mono ?_
        rintro e w4 ⟨rfl, hf4⟩
        have e0 := (hf4.cell gl (fun h => h)).trans d0
        have e1 := (hf4.cell (lt_of_cell d1) (fun h => h)).trans d1
        have e2 := (hf4.cell (lt_of_cell d2) (fun h => h)).trans d2
        have e3 := (hf4.cell (lt_of_cell d3) (fun h => h)).trans d3
        have e4 := (hf4.cell (lt_of_cell d4) (fun h => h)).trans d4
        have gl4 : g' < w4.heap.size := lt_of_cell e0
        have HF4 := hide hf4
        clear c0 c1 c2 c3 c4 d0 d1 d2 d3 d4 hf4 gl
        have rkp := fk_mem P.k
        have rkq := fk_mem Q.k
        generalize hkp : fk P.k = kp at *
        generalize hnp : fn P.k P.n = np at *
        have HKP := hide (And.intro hkp hnp)
        clear hkp hnp
        go_wp2_with fail
        refine (fit_any Q _).mono ?_
        rintro e w5 ⟨rfl, hf5⟩
        generalize hkq : fk Q.k = kq at *
        generalize hnq : fn Q.k Q.n = nq at *
        have HKQ := hide (And.intro hkq hnq)
        clear hkq hnq e0 e1 e2 e3 e4 gl4
        have bp : Box w5 w4.heap.size ⟨kp, P.u, P.s, np, P.m⟩ := Box.fr (box_new w4 ⟨kp, P.u, P.s, np, P.m⟩) hf5 (fun h => h)
        have HB := hide bp
        obtain ⟨p0, p1, p2, p3, p4⟩ := bp
        have s45 := hf5.size
        have HF5 := hide hf5
        clear hf5
        have s45' : w4.heap.size < w5.heap.size := by simp at s45; omega
        by_cases hne : kp = kq
        · subst hne
          by_cases h8 : 8 < kp
          · have b1 : (kp != kp) = false := by simp
            go_wp2_with fail
            go_ret
            exact ⟨rfl, ((((unhide A4').trans (unhide HF4) (fun _ _ h => h)).trans (box1 w4 _) (fun _ _ h => h)).trans (unhide HF5) (fun _ _ h => h)).alloc _⟩
          by_cases h5 : kp = 5
          · subst h5
            go_wp2_with fail
            go_ret
            exact ⟨rfl, ((((unhide A4').trans (unhide HF4) (fun _ _ h => h)).trans (box1 w4 _) (fun _ _ h => h)).trans (unhide HF5) (fun _ _ h => h)).alloc _⟩
          have hkk : kp = 1 ∨ kp = 2 ∨ kp = 4 ∨ kp = 8 ∨ kp = 6 ∨ kp = 7 := by
            simp only [kinds, List.mem_cons, List.not_mem_nil, or_false] at rkp
            omega
          have hmA : P ∈ A := by rw [← (unhide HPQ).1]; exact List.getElem_mem _
          have hmB : Q ∈ B := by rw [← (unhide HPQ).2]; exact List.getElem_mem _
          have okP := (unhide HO).1 P hmA
          have okQ := (unhide HO).2 Q hmB
          have wtP := weight_mem hmA
          have wtQ := weight_mem hmB
          have lA := run_len (A.take k) (E 2) er
          have lB := run_len (B.take k) (E 2) er
          have tA := weight_take A k
          have tB := weight_take B k
          have npl : np < 9223372036854775808 := by rw [← (unhide HKP).2]; exact fn_lt okP.2.1
          have nql : nq < 9223372036854775808 := by rw [← (unhide HKQ).2]; exact fn_lt okQ.2.1
          have HHH := hide (And.intro hkk (And.intro okP (And.intro okQ (And.intro npl nql))))
          have HFC : Hid (Fr (fun _ => False) wr (w5.alloc (.cells #[.int .i64 kp, .int .u64 Q.u, .string Q.s, .int .i64 nq, .int .i64 Q.m] 31))) := hide (((((unhide HF4)).trans (box1 w4 _) (fun _ _ h => h)).trans (unhide HF5) (fun _ _ h => h)).alloc _)
          have HLL := hide (And.intro hmA (And.intro hmB (And.intro wtP (And.intro wtQ (And.intro lA (And.intro lB (And.intro tA tB)))))))
          clear okP okQ npl nql hmA hmB wtP wtQ lA lB tA tB rkp rkq
          rcases hkk with rfl | rfl | rfl | rfl | rfl | rfl
          · go_wp2_with fail
            obtain ⟨F1, F2, hV, hU, hA4, hdj, hn1, hn2, hkd⟩ := unhide HI
            obtain ⟨-, okP, okQ, npl, nql⟩ := unhide HHH
            obtain ⟨-, -, wtP, wtQ, lA, lB, tA, tB⟩ := unhide HLL
            have hAC := hA4.trans (unhide HFC) (fun _ _ h => h)
            have lt1 : ∀ i, F1 i → i < wr.heap.size := hV.lt
            have lt2 : ∀ i, F2 i → i < wr.heap.size := hU.lt
            have s4 := (unhide HF4).size
            have HINV := hide (And.intro hV (And.intro hU (And.intro hdj (And.intro hn1 (And.intro hn2 (And.intro hkd (And.intro hAC (And.intro lt1 (And.intro lt2 (And.intro okQ nql))))))))))
            refine (lay_any ⟨1, P.u, P.s, np, P.m⟩ w1.heap.size F1 _ E er _ (by simp) okP.1 npl ((unhide HG).1.fr0 hAC) ((unhide HG).2.1.fr0 hAC) (hV.frame (unhide HFC) (fun _ _ h => h)) (by show P.s.size < _; omega) (by show _ + 8 + P.s.size ≤ _; omega)).mono ?_
            rintro e w6 ⟨rfl, F1', hW1, hc1⟩
            have b6 : Box w6 w4.heap.size ⟨1, P.u, P.s, np, P.m⟩ := Box.fr (Box.fr (unhide HB) (box1 w5 _) (fun h => h)) hc1.fr (fun h => by have := lt1 _ h; omega)
            have q6 : Box w6 w5.heap.size ⟨1, Q.u, Q.s, nq, Q.m⟩ := Box.fr (box_new w5 ⟨1, Q.u, Q.s, nq, Q.m⟩) hc1.fr (fun h => by have := lt1 _ h; omega)
            have hA6 := hAC.soak hc1.fr hn1
            have hU6 := (hU.frame (unhide HFC) (fun _ _ h => h)).frame hc1.fr (fun i hi h => hdj i h hi)
            have H6 := hide (And.intro b6 (And.intro q6 (And.intro hA6 (And.intro hU6 (And.intro hW1 hc1)))))
            obtain ⟨q0, q1, q2, q3, q4⟩ := q6
            clear p0 p1 p2 p3 p4 b6 hA6 hU6 hW1 hc1 hV hU hdj hn1 hn2 hkd hAC lt1 lt2 okP okQ npl nql hA4 HI HB lA tA wtP
            go_wp2_with fail
            refine (lay_any ⟨1, Q.u, Q.s, nq, Q.m⟩ w2.heap.size F2 _ E er w6 (by simp) (unhide HINV).2.2.2.2.2.2.2.2.2.1.1 (unhide HINV).2.2.2.2.2.2.2.2.2.2 ((unhide HG).1.fr0 (unhide H6).2.2.1) ((unhide HG).2.1.fr0 (unhide H6).2.2.1) (unhide H6).2.2.2.1 (by show Q.s.size < _; omega) (by show _ + 8 + Q.s.size ≤ _; omega)).mono ?_
            rintro e w7 ⟨rfl, F2', hW2, hc2⟩
            have lt2 := (unhide HINV).2.2.2.2.2.2.2.2.1
            have s6 : wr.heap.size ≤ w6.heap.size := Nat.le_trans (unhide HFC).size (unhide H6).2.2.2.2.2.fr.size
            have b7 : Box w7 w4.heap.size ⟨1, P.u, P.s, np, P.m⟩ := Box.fr (unhide H6).1 hc2.fr (fun h => by have := lt2 _ h; omega)
            have q7 : Box w7 w5.heap.size ⟨1, Q.u, Q.s, nq, Q.m⟩ := Box.fr (unhide H6).2.1 hc2.fr (fun h => by have := lt2 _ h; omega)
            have HI7 : Hid (Inv2 w w7 w1.heap.size w2.heap.size A B (k + 1) (E 2) er) := hide (inv_step (p := ⟨1, P.u, P.s, np, P.m⟩) (q := ⟨1, Q.u, Q.s, nq, Q.m⟩) hlt hltb (by show _ = _; rw [Pt.fit, (unhide HPQ).1, (unhide HKP).1, (unhide HKP).2]) (by show _ = _; rw [Pt.fit, (unhide HPQ).2, (unhide HKQ).1, (unhide HKQ).2]) rfl (by show (1 : Int) ≠ 5; decide) (by show (1 : Int) ≤ 8; decide) (unhide HINV).2.2.2.2.2.1 (unhide H6).2.2.2.2.1 hW2 (unhide H6).2.2.1 (unhide HFC) (unhide H6).2.2.2.2.2 hc2 (unhide HINV).2.2.1 (unhide HINV).2.2.2.1 (unhide HINV).2.2.2.2.1 lt2 (unhide A4').size)
            have HEQ : Hid (eqvs A B (k + 1) = (eqvs A B k && eqv ⟨1, P.u, P.s, np, P.m⟩ ⟨1, Q.u, Q.s, nq, Q.m⟩)) := hide (by rw [eqvs_snoc A B k hlt hltb, Pt.fit, Pt.fit, (unhide HPQ).1, (unhide HPQ).2, (unhide HKP).1, (unhide HKP).2, (unhide HKQ).1, (unhide HKQ).2])
            obtain ⟨p0, p1, p2, p3, p4⟩ := b7
            obtain ⟨r0, r1, r2, r3, r4⟩ := q7
            clear q0 q1 q2 q3 q4 hW2 hc2 H6 HINV lt2 s6
            generalize eqvs A B k = sm at *
            cases sm
            · go_wp2_with fail
              refine ⟨⟨k + 1, by omega, by go_num, rfl, by rw [unhide HEQ]; rfl, unhide HI7⟩, by simp [intOf]; omega⟩
            · go_wp2_with fail
              refine ⟨⟨k + 1, by omega, by go_num, rfl, by rw [unhide HEQ, Bool.true_and]; exact congrArg Value.bool (ev1 (unhide HHH).2.1.1 (unhide HHH).2.2.1.1), unhide HI7⟩, by simp [intOf]; omega⟩
          · go_wp2_with fail
            obtain ⟨F1, F2, hV, hU, hA4, hdj, hn1, hn2, hkd⟩ := unhide HI
            obtain ⟨-, okP, okQ, npl, nql⟩ := unhide HHH
            obtain ⟨-, -, wtP, wtQ, lA, lB, tA, tB⟩ := unhide HLL
            have hAC := hA4.trans (unhide HFC) (fun _ _ h => h)
            have lt1 : ∀ i, F1 i → i < wr.heap.size := hV.lt
            have lt2 : ∀ i, F2 i → i < wr.heap.size := hU.lt
            have s4 := (unhide HF4).size
            have HINV := hide (And.intro hV (And.intro hU (And.intro hdj (And.intro hn1 (And.intro hn2 (And.intro hkd (And.intro hAC (And.intro lt1 (And.intro lt2 (And.intro okQ nql))))))))))
            refine (lay_any ⟨2, P.u, P.s, np, P.m⟩ w1.heap.size F1 _ E er _ (by simp) okP.1 npl ((unhide HG).1.fr0 hAC) ((unhide HG).2.1.fr0 hAC) (hV.frame (unhide HFC) (fun _ _ h => h)) (by show P.s.size < _; omega) (by show _ + 8 + P.s.size ≤ _; omega)).mono ?_
            rintro e w6 ⟨rfl, F1', hW1, hc1⟩
            have b6 : Box w6 w4.heap.size ⟨2, P.u, P.s, np, P.m⟩ := Box.fr (Box.fr (unhide HB) (box1 w5 _) (fun h => h)) hc1.fr (fun h => by have := lt1 _ h; omega)
            have q6 : Box w6 w5.heap.size ⟨2, Q.u, Q.s, nq, Q.m⟩ := Box.fr (box_new w5 ⟨2, Q.u, Q.s, nq, Q.m⟩) hc1.fr (fun h => by have := lt1 _ h; omega)
            have hA6 := hAC.soak hc1.fr hn1
            have hU6 := (hU.frame (unhide HFC) (fun _ _ h => h)).frame hc1.fr (fun i hi h => hdj i h hi)
            have H6 := hide (And.intro b6 (And.intro q6 (And.intro hA6 (And.intro hU6 (And.intro hW1 hc1)))))
            obtain ⟨q0, q1, q2, q3, q4⟩ := q6
            clear p0 p1 p2 p3 p4 b6 hA6 hU6 hW1 hc1 hV hU hdj hn1 hn2 hkd hAC lt1 lt2 okP okQ npl nql hA4 HI HB lA tA wtP
            go_wp2_with fail
            refine (lay_any ⟨2, Q.u, Q.s, nq, Q.m⟩ w2.heap.size F2 _ E er w6 (by simp) (unhide HINV).2.2.2.2.2.2.2.2.2.1.1 (unhide HINV).2.2.2.2.2.2.2.2.2.2 ((unhide HG).1.fr0 (unhide H6).2.2.1) ((unhide HG).2.1.fr0 (unhide H6).2.2.1) (unhide H6).2.2.2.1 (by show Q.s.size < _; omega) (by show _ + 8 + Q.s.size ≤ _; omega)).mono ?_
            rintro e w7 ⟨rfl, F2', hW2, hc2⟩
            have lt2 := (unhide HINV).2.2.2.2.2.2.2.2.1
            have s6 : wr.heap.size ≤ w6.heap.size := Nat.le_trans (unhide HFC).size (unhide H6).2.2.2.2.2.fr.size
            have b7 : Box w7 w4.heap.size ⟨2, P.u, P.s, np, P.m⟩ := Box.fr (unhide H6).1 hc2.fr (fun h => by have := lt2 _ h; omega)
            have q7 : Box w7 w5.heap.size ⟨2, Q.u, Q.s, nq, Q.m⟩ := Box.fr (unhide H6).2.1 hc2.fr (fun h => by have := lt2 _ h; omega)
            have HI7 : Hid (Inv2 w w7 w1.heap.size w2.heap.size A B (k + 1) (E 2) er) := hide (inv_step (p := ⟨2, P.u, P.s, np, P.m⟩) (q := ⟨2, Q.u, Q.s, nq, Q.m⟩) hlt hltb (by show _ = _; rw [Pt.fit, (unhide HPQ).1, (unhide HKP).1, (unhide HKP).2]) (by show _ = _; rw [Pt.fit, (unhide HPQ).2, (unhide HKQ).1, (unhide HKQ).2]) rfl (by show (2 : Int) ≠ 5; decide) (by show (2 : Int) ≤ 8; decide) (unhide HINV).2.2.2.2.2.1 (unhide H6).2.2.2.2.1 hW2 (unhide H6).2.2.1 (unhide HFC) (unhide H6).2.2.2.2.2 hc2 (unhide HINV).2.2.1 (unhide HINV).2.2.2.1 (unhide HINV).2.2.2.2.1 lt2 (unhide A4').size)
            have HEQ : Hid (eqvs A B (k + 1) = (eqvs A B k && eqv ⟨2, P.u, P.s, np, P.m⟩ ⟨2, Q.u, Q.s, nq, Q.m⟩)) := hide (by rw [eqvs_snoc A B k hlt hltb, Pt.fit, Pt.fit, (unhide HPQ).1, (unhide HPQ).2, (unhide HKP).1, (unhide HKP).2, (unhide HKQ).1, (unhide HKQ).2])
            obtain ⟨p0, p1, p2, p3, p4⟩ := b7
            obtain ⟨r0, r1, r2, r3, r4⟩ := q7
            clear q0 q1 q2 q3 q4 hW2 hc2 H6 HINV lt2 s6
            generalize eqvs A B k = sm at *
            cases sm
            · go_wp2_with fail
              refine ⟨⟨k + 1, by omega, by go_num, rfl, by rw [unhide HEQ]; rfl, unhide HI7⟩, by simp [intOf]; omega⟩
            · go_wp2_with fail
              refine ⟨⟨k + 1, by omega, by go_num, rfl, by rw [unhide HEQ, Bool.true_and]; exact congrArg Value.bool (ev2 (unhide HHH).2.1.1 (unhide HHH).2.2.1.1), unhide HI7⟩, by simp [intOf]; omega⟩
          · go_wp2_with fail
            obtain ⟨F1, F2, hV, hU, hA4, hdj, hn1, hn2, hkd⟩ := unhide HI
            obtain ⟨-, okP, okQ, npl, nql⟩ := unhide HHH
            obtain ⟨-, -, wtP, wtQ, lA, lB, tA, tB⟩ := unhide HLL
            have hAC := hA4.trans (unhide HFC) (fun _ _ h => h)
            have lt1 : ∀ i, F1 i → i < wr.heap.size := hV.lt
            have lt2 : ∀ i, F2 i → i < wr.heap.size := hU.lt
            have s4 := (unhide HF4).size
            have HINV := hide (And.intro hV (And.intro hU (And.intro hdj (And.intro hn1 (And.intro hn2 (And.intro hkd (And.intro hAC (And.intro lt1 (And.intro lt2 (And.intro okQ nql))))))))))
            refine (lay_any ⟨4, P.u, P.s, np, P.m⟩ w1.heap.size F1 _ E er _ (by simp) okP.1 npl ((unhide HG).1.fr0 hAC) ((unhide HG).2.1.fr0 hAC) (hV.frame (unhide HFC) (fun _ _ h => h)) (by show P.s.size < _; omega) (by show _ + 8 + P.s.size ≤ _; omega)).mono ?_
            rintro e w6 ⟨rfl, F1', hW1, hc1⟩
            have b6 : Box w6 w4.heap.size ⟨4, P.u, P.s, np, P.m⟩ := Box.fr (Box.fr (unhide HB) (box1 w5 _) (fun h => h)) hc1.fr (fun h => by have := lt1 _ h; omega)
            have q6 : Box w6 w5.heap.size ⟨4, Q.u, Q.s, nq, Q.m⟩ := Box.fr (box_new w5 ⟨4, Q.u, Q.s, nq, Q.m⟩) hc1.fr (fun h => by have := lt1 _ h; omega)
            have hA6 := hAC.soak hc1.fr hn1
            have hU6 := (hU.frame (unhide HFC) (fun _ _ h => h)).frame hc1.fr (fun i hi h => hdj i h hi)
            have H6 := hide (And.intro b6 (And.intro q6 (And.intro hA6 (And.intro hU6 (And.intro hW1 hc1)))))
            obtain ⟨q0, q1, q2, q3, q4⟩ := q6
            clear p0 p1 p2 p3 p4 b6 hA6 hU6 hW1 hc1 hV hU hdj hn1 hn2 hkd hAC lt1 lt2 okP okQ npl nql hA4 HI HB lA tA wtP
            go_wp2_with fail
            refine (lay_any ⟨4, Q.u, Q.s, nq, Q.m⟩ w2.heap.size F2 _ E er w6 (by simp) (unhide HINV).2.2.2.2.2.2.2.2.2.1.1 (unhide HINV).2.2.2.2.2.2.2.2.2.2 ((unhide HG).1.fr0 (unhide H6).2.2.1) ((unhide HG).2.1.fr0 (unhide H6).2.2.1) (unhide H6).2.2.2.1 (by show Q.s.size < _; omega) (by show _ + 8 + Q.s.size ≤ _; omega)).mono ?_
            rintro e w7 ⟨rfl, F2', hW2, hc2⟩
            have lt2 := (unhide HINV).2.2.2.2.2.2.2.2.1
            have s6 : wr.heap.size ≤ w6.heap.size := Nat.le_trans (unhide HFC).size (unhide H6).2.2.2.2.2.fr.size
            have b7 : Box w7 w4.heap.size ⟨4, P.u, P.s, np, P.m⟩ := Box.fr (unhide H6).1 hc2.fr (fun h => by have := lt2 _ h; omega)
            have q7 : Box w7 w5.heap.size ⟨4, Q.u, Q.s, nq, Q.m⟩ := Box.fr (unhide H6).2.1 hc2.fr (fun h => by have := lt2 _ h; omega)
            have HI7 : Hid (Inv2 w w7 w1.heap.size w2.heap.size A B (k + 1) (E 2) er) := hide (inv_step (p := ⟨4, P.u, P.s, np, P.m⟩) (q := ⟨4, Q.u, Q.s, nq, Q.m⟩) hlt hltb (by show _ = _; rw [Pt.fit, (unhide HPQ).1, (unhide HKP).1, (unhide HKP).2]) (by show _ = _; rw [Pt.fit, (unhide HPQ).2, (unhide HKQ).1, (unhide HKQ).2]) rfl (by show (4 : Int) ≠ 5; decide) (by show (4 : Int) ≤ 8; decide) (unhide HINV).2.2.2.2.2.1 (unhide H6).2.2.2.2.1 hW2 (unhide H6).2.2.1 (unhide HFC) (unhide H6).2.2.2.2.2 hc2 (unhide HINV).2.2.1 (unhide HINV).2.2.2.1 (unhide HINV).2.2.2.2.1 lt2 (unhide A4').size)
            have HEQ : Hid (eqvs A B (k + 1) = (eqvs A B k && eqv ⟨4, P.u, P.s, np, P.m⟩ ⟨4, Q.u, Q.s, nq, Q.m⟩)) := hide (by rw [eqvs_snoc A B k hlt hltb, Pt.fit, Pt.fit, (unhide HPQ).1, (unhide HPQ).2, (unhide HKP).1, (unhide HKP).2, (unhide HKQ).1, (unhide HKQ).2])
            obtain ⟨p0, p1, p2, p3, p4⟩ := b7
            obtain ⟨r0, r1, r2, r3, r4⟩ := q7
            clear q0 q1 q2 q3 q4 hW2 hc2 H6 HINV lt2 s6
            generalize eqvs A B k = sm at *
            cases sm
            · go_wp2_with fail
              refine ⟨⟨k + 1, by omega, by go_num, rfl, by rw [unhide HEQ]; rfl, unhide HI7⟩, by simp [intOf]; omega⟩
            · go_wp2_with fail
              refine ⟨⟨k + 1, by omega, by go_num, rfl, by rw [unhide HEQ, Bool.true_and]; exact congrArg Value.bool (ev4 (unhide HHH).2.1.1 (unhide HHH).2.2.1.1), unhide HI7⟩, by simp [intOf]; omega⟩
          · go_wp2_with fail
            obtain ⟨F1, F2, hV, hU, hA4, hdj, hn1, hn2, hkd⟩ := unhide HI
            obtain ⟨-, okP, okQ, npl, nql⟩ := unhide HHH
            obtain ⟨-, -, wtP, wtQ, lA, lB, tA, tB⟩ := unhide HLL
            have hAC := hA4.trans (unhide HFC) (fun _ _ h => h)
            have lt1 : ∀ i, F1 i → i < wr.heap.size := hV.lt
            have lt2 : ∀ i, F2 i → i < wr.heap.size := hU.lt
            have s4 := (unhide HF4).size
            have HINV := hide (And.intro hV (And.intro hU (And.intro hdj (And.intro hn1 (And.intro hn2 (And.intro hkd (And.intro hAC (And.intro lt1 (And.intro lt2 (And.intro okQ nql))))))))))
            refine (lay_any ⟨8, P.u, P.s, np, P.m⟩ w1.heap.size F1 _ E er _ (by simp) okP.1 npl ((unhide HG).1.fr0 hAC) ((unhide HG).2.1.fr0 hAC) (hV.frame (unhide HFC) (fun _ _ h => h)) (by show P.s.size < _; omega) (by show _ + 8 + P.s.size ≤ _; omega)).mono ?_
            rintro e w6 ⟨rfl, F1', hW1, hc1⟩
            have b6 : Box w6 w4.heap.size ⟨8, P.u, P.s, np, P.m⟩ := Box.fr (Box.fr (unhide HB) (box1 w5 _) (fun h => h)) hc1.fr (fun h => by have := lt1 _ h; omega)
            have q6 : Box w6 w5.heap.size ⟨8, Q.u, Q.s, nq, Q.m⟩ := Box.fr (box_new w5 ⟨8, Q.u, Q.s, nq, Q.m⟩) hc1.fr (fun h => by have := lt1 _ h; omega)
            have hA6 := hAC.soak hc1.fr hn1
            have hU6 := (hU.frame (unhide HFC) (fun _ _ h => h)).frame hc1.fr (fun i hi h => hdj i h hi)
            have H6 := hide (And.intro b6 (And.intro q6 (And.intro hA6 (And.intro hU6 (And.intro hW1 hc1)))))
            obtain ⟨q0, q1, q2, q3, q4⟩ := q6
            clear p0 p1 p2 p3 p4 b6 hA6 hU6 hW1 hc1 hV hU hdj hn1 hn2 hkd hAC lt1 lt2 okP okQ npl nql hA4 HI HB lA tA wtP
            go_wp2_with fail
            refine (lay_any ⟨8, Q.u, Q.s, nq, Q.m⟩ w2.heap.size F2 _ E er w6 (by simp) (unhide HINV).2.2.2.2.2.2.2.2.2.1.1 (unhide HINV).2.2.2.2.2.2.2.2.2.2 ((unhide HG).1.fr0 (unhide H6).2.2.1) ((unhide HG).2.1.fr0 (unhide H6).2.2.1) (unhide H6).2.2.2.1 (by show Q.s.size < _; omega) (by show _ + 8 + Q.s.size ≤ _; omega)).mono ?_
            rintro e w7 ⟨rfl, F2', hW2, hc2⟩
            have lt2 := (unhide HINV).2.2.2.2.2.2.2.2.1
            have s6 : wr.heap.size ≤ w6.heap.size := Nat.le_trans (unhide HFC).size (unhide H6).2.2.2.2.2.fr.size
            have b7 : Box w7 w4.heap.size ⟨8, P.u, P.s, np, P.m⟩ := Box.fr (unhide H6).1 hc2.fr (fun h => by have := lt2 _ h; omega)
            have q7 : Box w7 w5.heap.size ⟨8, Q.u, Q.s, nq, Q.m⟩ := Box.fr (unhide H6).2.1 hc2.fr (fun h => by have := lt2 _ h; omega)
            have HI7 : Hid (Inv2 w w7 w1.heap.size w2.heap.size A B (k + 1) (E 2) er) := hide (inv_step (p := ⟨8, P.u, P.s, np, P.m⟩) (q := ⟨8, Q.u, Q.s, nq, Q.m⟩) hlt hltb (by show _ = _; rw [Pt.fit, (unhide HPQ).1, (unhide HKP).1, (unhide HKP).2]) (by show _ = _; rw [Pt.fit, (unhide HPQ).2, (unhide HKQ).1, (unhide HKQ).2]) rfl (by show (8 : Int) ≠ 5; decide) (by show (8 : Int) ≤ 8; decide) (unhide HINV).2.2.2.2.2.1 (unhide H6).2.2.2.2.1 hW2 (unhide H6).2.2.1 (unhide HFC) (unhide H6).2.2.2.2.2 hc2 (unhide HINV).2.2.1 (unhide HINV).2.2.2.1 (unhide HINV).2.2.2.2.1 lt2 (unhide A4').size)
            have HEQ : Hid (eqvs A B (k + 1) = (eqvs A B k && eqv ⟨8, P.u, P.s, np, P.m⟩ ⟨8, Q.u, Q.s, nq, Q.m⟩)) := hide (by rw [eqvs_snoc A B k hlt hltb, Pt.fit, Pt.fit, (unhide HPQ).1, (unhide HPQ).2, (unhide HKP).1, (unhide HKP).2, (unhide HKQ).1, (unhide HKQ).2])
            obtain ⟨p0, p1, p2, p3, p4⟩ := b7
            obtain ⟨r0, r1, r2, r3, r4⟩ := q7
            clear q0 q1 q2 q3 q4 hW2 hc2 H6 HINV lt2 s6
            generalize eqvs A B k = sm at *
            cases sm
            · go_wp2_with fail
              refine ⟨⟨k + 1, by omega, by go_num, rfl, by rw [unhide HEQ]; rfl, unhide HI7⟩, by simp [intOf]; omega⟩
            · go_wp2_with fail
              refine ⟨⟨k + 1, by omega, by go_num, rfl, by rw [unhide HEQ, Bool.true_and]; exact congrArg Value.bool ev8, unhide HI7⟩, by simp [intOf]; omega⟩
          · go_wp2_with fail
            obtain ⟨F1, F2, hV, hU, hA4, hdj, hn1, hn2, hkd⟩ := unhide HI
            obtain ⟨-, okP, okQ, npl, nql⟩ := unhide HHH
            obtain ⟨-, -, wtP, wtQ, lA, lB, tA, tB⟩ := unhide HLL
            have hAC := hA4.trans (unhide HFC) (fun _ _ h => h)
            have lt1 : ∀ i, F1 i → i < wr.heap.size := hV.lt
            have lt2 : ∀ i, F2 i → i < wr.heap.size := hU.lt
            have s4 := (unhide HF4).size
            have HINV := hide (And.intro hV (And.intro hU (And.intro hdj (And.intro hn1 (And.intro hn2 (And.intro hkd (And.intro hAC (And.intro lt1 (And.intro lt2 (And.intro okQ nql))))))))))
            refine (lay_any ⟨6, P.u, P.s, np, P.m⟩ w1.heap.size F1 _ E er _ (by simp) okP.1 npl ((unhide HG).1.fr0 hAC) ((unhide HG).2.1.fr0 hAC) (hV.frame (unhide HFC) (fun _ _ h => h)) (by show P.s.size < _; omega) (by show _ + 8 + P.s.size ≤ _; omega)).mono ?_
            rintro e w6 ⟨rfl, F1', hW1, hc1⟩
            have b6 : Box w6 w4.heap.size ⟨6, P.u, P.s, np, P.m⟩ := Box.fr (Box.fr (unhide HB) (box1 w5 _) (fun h => h)) hc1.fr (fun h => by have := lt1 _ h; omega)
            have q6 : Box w6 w5.heap.size ⟨6, Q.u, Q.s, nq, Q.m⟩ := Box.fr (box_new w5 ⟨6, Q.u, Q.s, nq, Q.m⟩) hc1.fr (fun h => by have := lt1 _ h; omega)
            have hA6 := hAC.soak hc1.fr hn1
            have hU6 := (hU.frame (unhide HFC) (fun _ _ h => h)).frame hc1.fr (fun i hi h => hdj i h hi)
            have H6 := hide (And.intro b6 (And.intro q6 (And.intro hA6 (And.intro hU6 (And.intro hW1 hc1)))))
            obtain ⟨q0, q1, q2, q3, q4⟩ := q6
            clear p0 p1 p2 p3 p4 b6 hA6 hU6 hW1 hc1 hV hU hdj hn1 hn2 hkd hAC lt1 lt2 okP okQ npl nql hA4 HI HB lA tA wtP
            go_wp2_with fail
            refine (lay_any ⟨6, Q.u, Q.s, nq, Q.m⟩ w2.heap.size F2 _ E er w6 (by simp) (unhide HINV).2.2.2.2.2.2.2.2.2.1.1 (unhide HINV).2.2.2.2.2.2.2.2.2.2 ((unhide HG).1.fr0 (unhide H6).2.2.1) ((unhide HG).2.1.fr0 (unhide H6).2.2.1) (unhide H6).2.2.2.1 (by show Q.s.size < _; omega) (by show _ + 8 + Q.s.size ≤ _; omega)).mono ?_
            rintro e w7 ⟨rfl, F2', hW2, hc2⟩
            have lt2 := (unhide HINV).2.2.2.2.2.2.2.2.1
            have s6 : wr.heap.size ≤ w6.heap.size := Nat.le_trans (unhide HFC).size (unhide H6).2.2.2.2.2.fr.size
            have b7 : Box w7 w4.heap.size ⟨6, P.u, P.s, np, P.m⟩ := Box.fr (unhide H6).1 hc2.fr (fun h => by have := lt2 _ h; omega)
            have q7 : Box w7 w5.heap.size ⟨6, Q.u, Q.s, nq, Q.m⟩ := Box.fr (unhide H6).2.1 hc2.fr (fun h => by have := lt2 _ h; omega)
            have HI7 : Hid (Inv2 w w7 w1.heap.size w2.heap.size A B (k + 1) (E 2) er) := hide (inv_step (p := ⟨6, P.u, P.s, np, P.m⟩) (q := ⟨6, Q.u, Q.s, nq, Q.m⟩) hlt hltb (by show _ = _; rw [Pt.fit, (unhide HPQ).1, (unhide HKP).1, (unhide HKP).2]) (by show _ = _; rw [Pt.fit, (unhide HPQ).2, (unhide HKQ).1, (unhide HKQ).2]) rfl (by show (6 : Int) ≠ 5; decide) (by show (6 : Int) ≤ 8; decide) (unhide HINV).2.2.2.2.2.1 (unhide H6).2.2.2.2.1 hW2 (unhide H6).2.2.1 (unhide HFC) (unhide H6).2.2.2.2.2 hc2 (unhide HINV).2.2.1 (unhide HINV).2.2.2.1 (unhide HINV).2.2.2.2.1 lt2 (unhide A4').size)
            have HEQ : Hid (eqvs A B (k + 1) = (eqvs A B k && eqv ⟨6, P.u, P.s, np, P.m⟩ ⟨6, Q.u, Q.s, nq, Q.m⟩)) := hide (by rw [eqvs_snoc A B k hlt hltb, Pt.fit, Pt.fit, (unhide HPQ).1, (unhide HPQ).2, (unhide HKP).1, (unhide HKP).2, (unhide HKQ).1, (unhide HKQ).2])
            obtain ⟨p0, p1, p2, p3, p4⟩ := b7
            obtain ⟨r0, r1, r2, r3, r4⟩ := q7
            clear q0 q1 q2 q3 q4 hW2 hc2 H6 HINV lt2 s6
            generalize eqvs A B k = sm at *
            cases sm
            · go_wp2_with fail
              refine ⟨⟨k + 1, by omega, by go_num, rfl, by rw [unhide HEQ]; rfl, unhide HI7⟩, by simp [intOf]; omega⟩
            · go_wp2_with fail
              refine ⟨⟨k + 1, by omega, by go_num, rfl, by rw [unhide HEQ, Bool.true_and]; exact congrArg Value.bool ev6, unhide HI7⟩, by simp [intOf]; omega⟩
          · go_wp2_with fail
            obtain ⟨F1, F2, hV, hU, hA4, hdj, hn1, hn2, hkd⟩ := unhide HI
            obtain ⟨-, okP, okQ, npl, nql⟩ := unhide HHH
            obtain ⟨-, -, wtP, wtQ, lA, lB, tA, tB⟩ := unhide HLL
            have hAC := hA4.trans (unhide HFC) (fun _ _ h => h)
            have lt1 : ∀ i, F1 i → i < wr.heap.size := hV.lt
            have lt2 : ∀ i, F2 i → i < wr.heap.size := hU.lt
            have s4 := (unhide HF4).size
            have HINV := hide (And.intro hV (And.intro hU (And.intro hdj (And.intro hn1 (And.intro hn2 (And.intro hkd (And.intro hAC (And.intro lt1 (And.intro lt2 (And.intro okQ nql))))))))))
            refine (lay_any ⟨7, P.u, P.s, np, P.m⟩ w1.heap.size F1 _ E er _ (by simp) okP.1 npl ((unhide HG).1.fr0 hAC) ((unhide HG).2.1.fr0 hAC) (hV.frame (unhide HFC) (fun _ _ h => h)) (by show P.s.size < _; omega) (by show _ + 8 + P.s.size ≤ _; omega)).mono ?_
            rintro e w6 ⟨rfl, F1', hW1, hc1⟩
            have b6 : Box w6 w4.heap.size ⟨7, P.u, P.s, np, P.m⟩ := Box.fr (Box.fr (unhide HB) (box1 w5 _) (fun h => h)) hc1.fr (fun h => by have := lt1 _ h; omega)
            have q6 : Box w6 w5.heap.size ⟨7, Q.u, Q.s, nq, Q.m⟩ := Box.fr (box_new w5 ⟨7, Q.u, Q.s, nq, Q.m⟩) hc1.fr (fun h => by have := lt1 _ h; omega)
            have hA6 := hAC.soak hc1.fr hn1
            have hU6 := (hU.frame (unhide HFC) (fun _ _ h => h)).frame hc1.fr (fun i hi h => hdj i h hi)
            have H6 := hide (And.intro b6 (And.intro q6 (And.intro hA6 (And.intro hU6 (And.intro hW1 hc1)))))
            obtain ⟨q0, q1, q2, q3, q4⟩ := q6
            clear p0 p1 p2 p3 p4 b6 hA6 hU6 hW1 hc1 hV hU hdj hn1 hn2 hkd hAC lt1 lt2 okP okQ npl nql hA4 HI HB lA tA wtP
            go_wp2_with fail
            refine (lay_any ⟨7, Q.u, Q.s, nq, Q.m⟩ w2.heap.size F2 _ E er w6 (by simp) (unhide HINV).2.2.2.2.2.2.2.2.2.1.1 (unhide HINV).2.2.2.2.2.2.2.2.2.2 ((unhide HG).1.fr0 (unhide H6).2.2.1) ((unhide HG).2.1.fr0 (unhide H6).2.2.1) (unhide H6).2.2.2.1 (by show Q.s.size < _; omega) (by show _ + 8 + Q.s.size ≤ _; omega)).mono ?_
            rintro e w7 ⟨rfl, F2', hW2, hc2⟩
            have lt2 := (unhide HINV).2.2.2.2.2.2.2.2.1
            have s6 : wr.heap.size ≤ w6.heap.size := Nat.le_trans (unhide HFC).size (unhide H6).2.2.2.2.2.fr.size
            have b7 : Box w7 w4.heap.size ⟨7, P.u, P.s, np, P.m⟩ := Box.fr (unhide H6).1 hc2.fr (fun h => by have := lt2 _ h; omega)
            have q7 : Box w7 w5.heap.size ⟨7, Q.u, Q.s, nq, Q.m⟩ := Box.fr (unhide H6).2.1 hc2.fr (fun h => by have := lt2 _ h; omega)
            have HI7 : Hid (Inv2 w w7 w1.heap.size w2.heap.size A B (k + 1) (E 2) er) := hide (inv_step (p := ⟨7, P.u, P.s, np, P.m⟩) (q := ⟨7, Q.u, Q.s, nq, Q.m⟩) hlt hltb (by show _ = _; rw [Pt.fit, (unhide HPQ).1, (unhide HKP).1, (unhide HKP).2]) (by show _ = _; rw [Pt.fit, (unhide HPQ).2, (unhide HKQ).1, (unhide HKQ).2]) rfl (by show (7 : Int) ≠ 5; decide) (by show (7 : Int) ≤ 8; decide) (unhide HINV).2.2.2.2.2.1 (unhide H6).2.2.2.2.1 hW2 (unhide H6).2.2.1 (unhide HFC) (unhide H6).2.2.2.2.2 hc2 (unhide HINV).2.2.1 (unhide HINV).2.2.2.1 (unhide HINV).2.2.2.2.1 lt2 (unhide A4').size)
            have HEQ : Hid (eqvs A B (k + 1) = (eqvs A B k && eqv ⟨7, P.u, P.s, np, P.m⟩ ⟨7, Q.u, Q.s, nq, Q.m⟩)) := hide (by rw [eqvs_snoc A B k hlt hltb, Pt.fit, Pt.fit, (unhide HPQ).1, (unhide HPQ).2, (unhide HKP).1, (unhide HKP).2, (unhide HKQ).1, (unhide HKQ).2])
            obtain ⟨p0, p1, p2, p3, p4⟩ := b7
            obtain ⟨r0, r1, r2, r3, r4⟩ := q7
            clear q0 q1 q2 q3 q4 hW2 hc2 H6 HINV lt2 s6
            generalize eqvs A B k = sm at *
            cases sm
            · go_wp2_with fail
              refine ⟨⟨k + 1, by omega, by go_num, rfl, by rw [unhide HEQ]; rfl, unhide HI7⟩, by simp [intOf]; omega⟩
            · go_wp2_with fail
              refine ⟨⟨k + 1, by omega, by go_num, rfl, by rw [unhide HEQ, Bool.true_and]; exact congrArg Value.bool ev7, unhide HI7⟩, by simp [intOf]; omega⟩
        · have bne : (kp != kq) = true := by rw [bne_iff_ne]; exact hne
          go_wp2_with fail
          go_ret
          exact ⟨rfl, ((((unhide A4').trans (unhide HF4) (fun _ _ h => h)).trans (box1 w4 _) (fun _ _ h => h)).trans (unhide HF5) (fun _ _ h => h)).alloc _⟩
      · obtain ⟨F1, F2, hV, hU, hA4, hdj, hn1, hn2, hkd⟩ := unhide HI
        have hkA : k = A.length := by omega
        have hkB : k = B.length := by rw [hkA]; exact unhide HLEN
        have hzip : (A.zip B).length ≤ k := by rw [List.length_zip]; omega
        have eA : A.take k = A := List.take_of_length_le (by omega)
        have eB : B.take k = B := List.take_of_length_le (by omega)
        have eE : eqvs A B k = ((A.zip B).all fun x => eqv x.1.fit x.2.fit) := by rw [eqvs, List.take_of_length_le hzip]
        rw [eA] at hV
        rw [eB] at hU
        rw [List.take_of_length_le hzip] at hkd
        have lA := run_len A (E 2) er
        have lB := run_len B (E 2) er
        have HV := hide (And.intro hV (And.intro hU (And.intro hA4 (And.intro hdj hkd))))
        have HE := hide eE
        clear hV hU hA4 hdj hn1 hn2 hkd eA eB eE hkA hkB hzip HI
        generalize eqvs A B k = sm at *
        go_wp2_with fail
        cases hfA : (run A (E 2) er).f with
        | some y =>
          obtain ⟨what, place, ea⟩ := y
          refine (wDone_bad _ _ _ what place ea wr (unhide HV).1 hfA).mono ?_
          rintro e w4 ⟨rfl, rfl⟩
          have U5 := (unhide HV).2.1.frame (box1 wr (faultObj what place ea)) (fun _ _ h => h)
          have A5 := (unhide HV).2.2.1.alloc (faultObj what place ea)
          have H5 := hide (And.intro U5 A5)
          clear U5 A5 hfA
          go_wp2_with fail
          cases hfB : (run B (E 2) er).f with
          | some z =>
            obtain ⟨what2, place2, ea2⟩ := z
            refine (wDone_bad _ _ _ what2 place2 ea2 _ (unhide H5).1 hfB).mono ?_
            rintro e w5 ⟨rfl, rfl⟩
            clear hfB
            go_wp2_with fail
            go_ret
            exact ⟨rfl, (unhide H5).2.alloc _⟩
          | none =>
            refine (wDone_ok _ _ _ _ (unhide H5).1 hfB (by omega)).mono ?_
            rintro e w5 ⟨y, rfl, hy, hf5⟩
            obtain ⟨yo, yc, rfl⟩ := own_form hy
            have HF5 := hide hf5
            clear hfB hy hf5
            go_wp2_with fail
            go_ret
            exact ⟨rfl, (unhide H5).2.trans (unhide HF5) (fun _ _ h => h)⟩
        | none =>
          refine (wDone_ok _ _ _ wr (unhide HV).1 hfA (by omega)).mono ?_
          rintro e w4 ⟨x, rfl, hx, hf4⟩
          obtain ⟨xo, xc, rfl⟩ := own_form hx
          have U4 := (unhide HV).2.1.frame hf4 (fun _ _ h => h)
          have A4 := (unhide HV).2.2.1.trans hf4 (fun _ _ h => h)
          have H4 := hide (And.intro (own_src hx) (And.intro U4 (And.intro A4 hfA)))
          clear hx U4 A4 hf4 hfA
          go_wp2_with fail
          cases hfB : (run B (E 2) er).f with
          | some z =>
            obtain ⟨what2, place2, ea2⟩ := z
            refine (wDone_bad _ _ _ what2 place2 ea2 _ (unhide H4).2.1 hfB).mono ?_
            rintro e w5 ⟨rfl, rfl⟩
            clear hfB
            go_wp2_with fail
            go_ret
            exact ⟨rfl, (unhide H4).2.2.1.alloc _⟩
          | none =>
            refine (wDone_ok _ _ _ _ (unhide H4).2.1 hfB (by omega)).mono ?_
            rintro e w5 ⟨y, rfl, hy, hf5⟩
            obtain ⟨yo, yc, rfl⟩ := own_form hy
            have sx := (unhide H4).1.fr hf5 (fun _ _ _ _ _ h => h)
            have A5 := (unhide H4).2.2.1.trans hf5 (fun _ _ h => h)
            have hinj := two_inj (ea := E 2) (er := er) (unhide HLEN) (unhide HV).2.2.2.2 (fun p hp => ((unhide HO).1 p hp).1) (fun p hp => ((unhide HO).2 p hp).1) (unhide H4).2.2.2 hfB
            have H5 := hide (And.intro sx (And.intro (own_src hy) (And.intro A5 hinj)))
            clear sx hy A5 hinj hf5 hfB
            go_wp2_with fail
            refine (same_any _ _ _ _ w5 (unhide H5).1 (unhide H5).2.1 (by omega)).mono ?_
            rintro e w6 ⟨rfl, q, rfl⟩
            rw [(unhide H5).2.2.2, ← unhide HE]
            go_wp2_with fail
            go_ret
            exact ⟨rfl, (unhide H5).2.2.1.drewN _⟩
  · have hl2 : ((A.length : Int) == (B.length : Int)) = false := by simp; omega
    clear hlen
    go_wp2_with fail
    go_loopw [7, 8, 9] (fun lk _ _ wr => lk = .bool false ∧ wr = w3) (fun _ _ _ _ => 0)
    case atStart => exact ⟨rfl, rfl⟩
    case round =>
      obtain ⟨rfl, rfl⟩ := hrel
      go_wp2_with fail
      go_ret
      exact ⟨rfl, (unhide H3).2.2⟩
end Go.Proofs.YtikolmpgnpkdbaaDoor

