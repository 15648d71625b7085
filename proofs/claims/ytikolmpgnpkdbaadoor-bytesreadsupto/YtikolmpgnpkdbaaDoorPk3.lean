import Derived.Test.YtikolmpgnpkdbaaDoorPk2
namespace Go.Proofs.YtikolmpgnpkdbaaDoor
open Go.RowKit

theorem Gl.drew {w : World} {E : Nat → Addr} (h : Gl w E) : Gl w.drew E := ⟨h.e1, h.e2, h.e3⟩
theorem Rc.drew {w : World} {b : Nat} {nm : ByteArray} {sv : Value} {all : List Nat} {place part : Nat} (h : Rc w b nm sv all place part) : Rc w.drew b nm sv all place part :=
  ⟨h.c0, h.c1, h.c2, h.c3, h.c4, h.fz, h.src, h.ns, h.le⟩
theorem Rc.frame {w w' : World} {b : Nat} {nm : ByteArray} {sv : Value} {all : List Nat} {place part : Nat} {S : Nat → Prop} (h : Rc w b nm sv all place part) (hf : Fr S w w') (hb : ¬ S b) (hs : ∀ g o m c, sv = .slice (some ⟨g, o, none⟩) m c → ¬ S g) : Rc w' b nm sv all place part := by
  have hlt : b < w.heap.size := lt_of_cell h.c0
  have hc : ∀ i, w'.cell? ⟨b, i, none⟩ = w.cell? ⟨b, i, none⟩ := fun i => hf.cell hlt hb
  exact ⟨(hc 0).trans h.c0, (hc 1).trans h.c1, (hc 2).trans h.c2, (hc 3).trans h.c3, (hc 4).trans h.c4, fun i => (hf.frozen hlt hb).trans (h.fz i), h.src.fr hf hs, h.ns, h.le⟩

theorem rBytes_end {w w1 w2 w3 : World} {b place part x : Nat} {nm : ByteArray} {sv v3 : Value} {all : List Nat} (hf : Fr (fun k => k = b) w.drew w1) (hr2 : Rc w2 b nm sv all (place + 4 + x) part) (hf2 : Fr (fun k => k = b) w1 w2)
    (hown : w3.ownsRow w2.heap.size 5 1 v3 ((all.drop (place + 4)).take x).length (cellsOf ((all.drop (place + 4)).take x))) (hf3 : Fr (fun _ => False) w2 w3) (hxl : x + (place + 4) ≤ all.length) :
    ∃ ao cap, v3 = .slice ao x cap ∧ w3.ownsRow w.heap.size 5 1 (.slice ao x cap) x (cellsOf ((all.drop (place + 4)).take x)) ∧ Rc w3 b nm sv all (place + 4 + x) part ∧ Fr (fun k => k = b) w w3 := by
  have hlen : ((all.drop (place + 4)).take x).length = x := by simp; omega
  rw [hlen] at hown
  obtain ⟨ao, cap, rfl⟩ := own_form hown
  have hf0 : Fr (fun k => k = b) w w1 := ⟨hf.os, hf.tape, hf.output, hf.size, hf.block⟩
  refine ⟨ao, cap, rfl, ⟨hown.1, ?_⟩, hr2.frame hf3 (fun h => h) (fun _ _ _ _ _ h => h), (hf0.trans hf2 (fun _ _ h => h)).trans hf3 (fun _ _ h => h.elim)⟩
  rcases hown.2 with h | ⟨g, c, cur, e1, e2, e3⟩
  · exact .inl h
  · exact .inr ⟨g, c, cur, e1, Nat.le_trans (Nat.le_trans hf0.size hf2.size) e2, e3⟩

set_option maxRecDepth 100000 in
set_option maxHeartbeats 1000000 in
theorem rBytes_clo (b place part x : Nat) (most : Int) (p0 p1 : Addr) (nm : ByteArray) (sv : Value) (all : List Nat) (E : Nat → Addr) (w : World) (hb : 9 ≤ b) (hm : most < 9223372036854775808) (hg : Gl w E) (h : Rc w b nm sv all place part)
    (hp0 : w.cell? p0 = some (.pointer (some ⟨b, 0, none⟩))) (hp1 : w.cell? p1 = some (.int .i64 most)) (n0 : p0.block ≠ b) (hx : val ((all.drop place).take 4) = x) (hn : 4 + place ≤ all.length) (hv : (x : Int) ≤ most) (hxl : x + (place + 4) ≤ all.length) (hal : all.length ≤ 140737488355328) :
    Calls Tryd.prog 60 #[.pointer (some p0), .pointer (some p1)] w fun e w' => ∃ ao cap, e = .returned (.slice ao x cap) ∧ w'.ownsRow w.heap.size 5 1 (.slice ao x cap) x (cellsOf ((all.drop (place + 4)).take x)) ∧ Rc w' b nm sv all (place + 4 + x) part ∧ Fr (fun k => k = b) w w' := by
  have HC := hide (rcount_ok b place part most nm sv all E w.drew hb hm hg.drew h.drew hn (by rw [hx]; exact hv))
  rw [hx] at HC
  have HG := hide hg
  have H := hide h
  have hlt : b < w.heap.size := lt_of_cell h.c0
  have hp0lt := lt_of_cell hp0
  clear hg h hx
  go_enter Tryd.func60, Tryd.ntmps60
  go_wp2_with fail
  go_region_with (first
    | (go_at_call 62; refine (unhide HC).mono ?_; rintro e w1 ⟨rfl, hr, hf⟩; have q0 : w1.cell? p0 = some (.pointer (some ⟨b, 0, none⟩)) := (hf.cell hp0lt n0).trans hp0; have HR := hide (And.intro hr hf); clear hr hf)
    | (go_at_call 61; refine (take_ok b x (place + 4) part nm sv all E w1 ((unhide HG).drew.frb (unhide HR).2 hb) (unhide HR).1 hxl).mono ?_; rintro e w2 ⟨v, rfl, hsrc, hr2, hf2⟩; have HR2 := hide (And.intro hsrc (And.intro hr2 hf2)); clear hsrc hr2 hf2)
    | (go_at_call 41; refine (clone_any v ((all.drop (place + 4)).take x) w2 (unhide HR2).1 (by simp; omega)).mono ?_; rintro e w3 ⟨v3, rfl, hown, hf3⟩; have HR3 := hide (And.intro hown hf3); clear hown hf3))
  all_goals
    obtain ⟨ao, cap, rfl, hres⟩ := rBytes_end (unhide HR).2 (unhide HR2).2.1 (unhide HR2).2.2 (unhide HR3).1 (unhide HR3).2 hxl
    have HE := hide hres
    clear hres
    go_wp2
    go_ret
    exact ⟨ao, cap, rfl, unhide HE⟩
end Go.Proofs.YtikolmpgnpkdbaaDoor

namespace Go.Proofs.YtikolmpgnpkdbaaDoor
open Go.RowKit

/-- The part's place is written. -/
theorem Rc.parted {w : World} {b : Nat} {nm : ByteArray} {sv : Value} {all : List Nat} {place part : Nat} (h : Rc w b nm sv all place part) (p' : Nat) :
    Rc (w.setCell ⟨b, 4, none⟩ (.int .i64 p')).drew b nm sv all place p' ∧ Fr (fun k => k = b) w (w.setCell ⟨b, 4, none⟩ (.int .i64 p')).drew := by
  have hf : Fr (fun k => k = b) w (w.setCell ⟨b, 4, none⟩ (.int .i64 p')).drew := (Fr.setCell (S := fun k => k = b) (Fr.refl _ _) (.inl rfl) _).drew
  have hc : ∀ i, i ≠ 4 → (w.setCell ⟨b, 4, none⟩ (.int .i64 p')).drew.cell? ⟨b, i, none⟩ = w.cell? ⟨b, i, none⟩ := fun i hi => by
    rw [World.cell?_drew, World.cell?_setCell_other _ _ _ _ (by intro h; injection h with _ h2 _; exact hi h2.symm)]
  refine ⟨⟨(hc 0 (by decide)).trans h.c0, (hc 1 (by decide)).trans h.c1, (hc 2 (by decide)).trans h.c2, (hc 3 (by decide)).trans h.c3, ?_, fun i => ?_, h.src.fr hf (fun g o m c e => (h.ns g o m c e).1), h.ns, h.le⟩, hf⟩
  · rw [World.cell?_drew]; exact World.cell?_setCell_same _ _ _ h.c4
  · rw [World.frozen?_drew, World.frozen?_setCell]; exact h.fz i

set_option maxRecDepth 100000 in
set_option maxHeartbeats 400000 in
theorem rp_uint8_clo (b Fc : Nat) (caps : Array Value) (p0 p1 p2 : Addr) (nm : ByteArray) (sv old : Value) (all : List Nat) (place part p' : Nat) (x:Nat) (w : World) (h : Rc w b nm sv all place part)
    (hp0 : w.cell? p0 = some (.pointer (some ⟨b, 0, none⟩))) (hp1 : w.cell? p1 = some (.func (.func Fc) #[] caps)) (hp2 : w.cell? p2 = some old) (f2 : w.frozen? p2 = false) (n0 : p0.block ≠ b) (n1 : p1.block ≠ b) (n2 : p2.block ≠ b)
    (he : ∀ W, (callFunc Fc caps).run Tryd.prog W = .ok (.enter Fc caps) W)
    (hread : ∀ wk, Fr (fun k => k = b) w wk → Rc wk b nm sv all place place → Calls Tryd.prog Fc caps wk fun e w' => e = .returned (.int .u8 x) ∧ Rc w' b nm sv all p' place ∧ Fr (fun k => k = b) wk w') :
    Calls Tryd.prog 92 #[.pointer (some p0), .pointer (some p1), .pointer (some p2)] w fun e w' => e = .returned (.tuple #[]) ∧ ∃ w1, Rc w1 b nm sv all p' place ∧ Fr (fun k => k = b) w w1 ∧ w' = w1.setCell p2 (.int .u8 x) := by
  have HR := hide hread
  have HP := hide (h.parted place)
  have h3 := h.c3
  have h4 := h.c4
  have z4 := h.fz 4
  have q1 : (w.setCell ⟨b, 4, none⟩ (.int .i64 place)).drew.cell? p1 = some (.func (.func Fc) #[] caps) := ((unhide HP).2.cell (lt_of_cell hp1) n1).trans hp1
  have q0 : (w.setCell ⟨b, 4, none⟩ (.int .i64 place)).drew.cell? p0 = some (.pointer (some ⟨b, 0, none⟩)) := ((unhide HP).2.cell (lt_of_cell hp0) n0).trans hp0
  have l2 := lt_of_cell hp2
  have P2 := hide hp2
  have F2 := hide f2
  clear hread h hp1 hp2 f2
  simp only [World.cell?_drew] at q1 q0
  go_enter Tryd.func92, Tryd.ntmps92
  go_wp2_with fail
  go_region
  all_goals
    go_wp2_with fail
    refine (unhide HR _ (unhide HP).2 (unhide HP).1).mono ?_
    rintro e w1 ⟨rfl, hr, hf⟩
    have hf' := (unhide HP).2.trans hf (fun _ _ h => h)
    have r2 := (hf'.cell l2 n2).trans (unhide P2)
    have g2 := (hf'.frozen l2 n2).trans (unhide F2)
    go_wp2_with fail
    go_end0
    exact ⟨rfl, w1, hr, hf', rfl⟩
set_option maxRecDepth 100000 in
set_option maxHeartbeats 400000 in
theorem rp_uint16_clo (b Fc : Nat) (caps : Array Value) (p0 p1 p2 : Addr) (nm : ByteArray) (sv old : Value) (all : List Nat) (place part p' : Nat) (x:Nat) (w : World) (h : Rc w b nm sv all place part)
    (hp0 : w.cell? p0 = some (.pointer (some ⟨b, 0, none⟩))) (hp1 : w.cell? p1 = some (.func (.func Fc) #[] caps)) (hp2 : w.cell? p2 = some old) (f2 : w.frozen? p2 = false) (n0 : p0.block ≠ b) (n1 : p1.block ≠ b) (n2 : p2.block ≠ b)
    (he : ∀ W, (callFunc Fc caps).run Tryd.prog W = .ok (.enter Fc caps) W)
    (hread : ∀ wk, Fr (fun k => k = b) w wk → Rc wk b nm sv all place place → Calls Tryd.prog Fc caps wk fun e w' => e = .returned (.int .u16 x) ∧ Rc w' b nm sv all p' place ∧ Fr (fun k => k = b) wk w') :
    Calls Tryd.prog 95 #[.pointer (some p0), .pointer (some p1), .pointer (some p2)] w fun e w' => e = .returned (.tuple #[]) ∧ ∃ w1, Rc w1 b nm sv all p' place ∧ Fr (fun k => k = b) w w1 ∧ w' = w1.setCell p2 (.int .u16 x) := by
  have HR := hide hread
  have HP := hide (h.parted place)
  have h3 := h.c3
  have h4 := h.c4
  have z4 := h.fz 4
  have q1 : (w.setCell ⟨b, 4, none⟩ (.int .i64 place)).drew.cell? p1 = some (.func (.func Fc) #[] caps) := ((unhide HP).2.cell (lt_of_cell hp1) n1).trans hp1
  have q0 : (w.setCell ⟨b, 4, none⟩ (.int .i64 place)).drew.cell? p0 = some (.pointer (some ⟨b, 0, none⟩)) := ((unhide HP).2.cell (lt_of_cell hp0) n0).trans hp0
  have l2 := lt_of_cell hp2
  have P2 := hide hp2
  have F2 := hide f2
  clear hread h hp1 hp2 f2
  simp only [World.cell?_drew] at q1 q0
  go_enter Tryd.func95, Tryd.ntmps95
  go_wp2_with fail
  go_region
  all_goals
    go_wp2_with fail
    refine (unhide HR _ (unhide HP).2 (unhide HP).1).mono ?_
    rintro e w1 ⟨rfl, hr, hf⟩
    have hf' := (unhide HP).2.trans hf (fun _ _ h => h)
    have r2 := (hf'.cell l2 n2).trans (unhide P2)
    have g2 := (hf'.frozen l2 n2).trans (unhide F2)
    go_wp2_with fail
    go_end0
    exact ⟨rfl, w1, hr, hf', rfl⟩
set_option maxRecDepth 100000 in
set_option maxHeartbeats 400000 in
theorem rp_uint32_clo (b Fc : Nat) (caps : Array Value) (p0 p1 p2 : Addr) (nm : ByteArray) (sv old : Value) (all : List Nat) (place part p' : Nat) (x:Nat) (w : World) (h : Rc w b nm sv all place part)
    (hp0 : w.cell? p0 = some (.pointer (some ⟨b, 0, none⟩))) (hp1 : w.cell? p1 = some (.func (.func Fc) #[] caps)) (hp2 : w.cell? p2 = some old) (f2 : w.frozen? p2 = false) (n0 : p0.block ≠ b) (n1 : p1.block ≠ b) (n2 : p2.block ≠ b)
    (he : ∀ W, (callFunc Fc caps).run Tryd.prog W = .ok (.enter Fc caps) W)
    (hread : ∀ wk, Fr (fun k => k = b) w wk → Rc wk b nm sv all place place → Calls Tryd.prog Fc caps wk fun e w' => e = .returned (.int .u32 x) ∧ Rc w' b nm sv all p' place ∧ Fr (fun k => k = b) wk w') :
    Calls Tryd.prog 104 #[.pointer (some p0), .pointer (some p1), .pointer (some p2)] w fun e w' => e = .returned (.tuple #[]) ∧ ∃ w1, Rc w1 b nm sv all p' place ∧ Fr (fun k => k = b) w w1 ∧ w' = w1.setCell p2 (.int .u32 x) := by
  have HR := hide hread
  have HP := hide (h.parted place)
  have h3 := h.c3
  have h4 := h.c4
  have z4 := h.fz 4
  have q1 : (w.setCell ⟨b, 4, none⟩ (.int .i64 place)).drew.cell? p1 = some (.func (.func Fc) #[] caps) := ((unhide HP).2.cell (lt_of_cell hp1) n1).trans hp1
  have q0 : (w.setCell ⟨b, 4, none⟩ (.int .i64 place)).drew.cell? p0 = some (.pointer (some ⟨b, 0, none⟩)) := ((unhide HP).2.cell (lt_of_cell hp0) n0).trans hp0
  have l2 := lt_of_cell hp2
  have P2 := hide hp2
  have F2 := hide f2
  clear hread h hp1 hp2 f2
  simp only [World.cell?_drew] at q1 q0
  go_enter Tryd.func104, Tryd.ntmps104
  go_wp2_with fail
  go_region
  all_goals
    go_wp2_with fail
    refine (unhide HR _ (unhide HP).2 (unhide HP).1).mono ?_
    rintro e w1 ⟨rfl, hr, hf⟩
    have hf' := (unhide HP).2.trans hf (fun _ _ h => h)
    have r2 := (hf'.cell l2 n2).trans (unhide P2)
    have g2 := (hf'.frozen l2 n2).trans (unhide F2)
    go_wp2_with fail
    go_end0
    exact ⟨rfl, w1, hr, hf', rfl⟩
set_option maxRecDepth 100000 in
set_option maxHeartbeats 400000 in
theorem rp_uint64_clo (b Fc : Nat) (caps : Array Value) (p0 p1 p2 : Addr) (nm : ByteArray) (sv old : Value) (all : List Nat) (place part p' : Nat) (x:Nat) (w : World) (h : Rc w b nm sv all place part)
    (hp0 : w.cell? p0 = some (.pointer (some ⟨b, 0, none⟩))) (hp1 : w.cell? p1 = some (.func (.func Fc) #[] caps)) (hp2 : w.cell? p2 = some old) (f2 : w.frozen? p2 = false) (n0 : p0.block ≠ b) (n1 : p1.block ≠ b) (n2 : p2.block ≠ b)
    (he : ∀ W, (callFunc Fc caps).run Tryd.prog W = .ok (.enter Fc caps) W)
    (hread : ∀ wk, Fr (fun k => k = b) w wk → Rc wk b nm sv all place place → Calls Tryd.prog Fc caps wk fun e w' => e = .returned (.int .u64 x) ∧ Rc w' b nm sv all p' place ∧ Fr (fun k => k = b) wk w') :
    Calls Tryd.prog 105 #[.pointer (some p0), .pointer (some p1), .pointer (some p2)] w fun e w' => e = .returned (.tuple #[]) ∧ ∃ w1, Rc w1 b nm sv all p' place ∧ Fr (fun k => k = b) w w1 ∧ w' = w1.setCell p2 (.int .u64 x) := by
  have HR := hide hread
  have HP := hide (h.parted place)
  have h3 := h.c3
  have h4 := h.c4
  have z4 := h.fz 4
  have q1 : (w.setCell ⟨b, 4, none⟩ (.int .i64 place)).drew.cell? p1 = some (.func (.func Fc) #[] caps) := ((unhide HP).2.cell (lt_of_cell hp1) n1).trans hp1
  have q0 : (w.setCell ⟨b, 4, none⟩ (.int .i64 place)).drew.cell? p0 = some (.pointer (some ⟨b, 0, none⟩)) := ((unhide HP).2.cell (lt_of_cell hp0) n0).trans hp0
  have l2 := lt_of_cell hp2
  have P2 := hide hp2
  have F2 := hide f2
  clear hread h hp1 hp2 f2
  simp only [World.cell?_drew] at q1 q0
  go_enter Tryd.func105, Tryd.ntmps105
  go_wp2_with fail
  go_region
  all_goals
    go_wp2_with fail
    refine (unhide HR _ (unhide HP).2 (unhide HP).1).mono ?_
    rintro e w1 ⟨rfl, hr, hf⟩
    have hf' := (unhide HP).2.trans hf (fun _ _ h => h)
    have r2 := (hf'.cell l2 n2).trans (unhide P2)
    have g2 := (hf'.frozen l2 n2).trans (unhide F2)
    go_wp2_with fail
    go_end0
    exact ⟨rfl, w1, hr, hf', rfl⟩
set_option maxRecDepth 100000 in
set_option maxHeartbeats 400000 in
theorem rp_string_clo (b Fc : Nat) (caps : Array Value) (p0 p1 p2 : Addr) (nm : ByteArray) (sv old : Value) (all : List Nat) (place part p' : Nat) (x:ByteArray) (w : World) (h : Rc w b nm sv all place part)
    (hp0 : w.cell? p0 = some (.pointer (some ⟨b, 0, none⟩))) (hp1 : w.cell? p1 = some (.func (.func Fc) #[] caps)) (hp2 : w.cell? p2 = some old) (f2 : w.frozen? p2 = false) (n0 : p0.block ≠ b) (n1 : p1.block ≠ b) (n2 : p2.block ≠ b)
    (he : ∀ W, (callFunc Fc caps).run Tryd.prog W = .ok (.enter Fc caps) W)
    (hread : ∀ wk, Fr (fun k => k = b) w wk → Rc wk b nm sv all place place → Calls Tryd.prog Fc caps wk fun e w' => e = .returned (.string x) ∧ Rc w' b nm sv all p' place ∧ Fr (fun k => k = b) wk w') :
    Calls Tryd.prog 107 #[.pointer (some p0), .pointer (some p1), .pointer (some p2)] w fun e w' => e = .returned (.tuple #[]) ∧ ∃ w1, Rc w1 b nm sv all p' place ∧ Fr (fun k => k = b) w w1 ∧ w' = w1.setCell p2 (.string x) := by
  have HR := hide hread
  have HP := hide (h.parted place)
  have h3 := h.c3
  have h4 := h.c4
  have z4 := h.fz 4
  have q1 : (w.setCell ⟨b, 4, none⟩ (.int .i64 place)).drew.cell? p1 = some (.func (.func Fc) #[] caps) := ((unhide HP).2.cell (lt_of_cell hp1) n1).trans hp1
  have q0 : (w.setCell ⟨b, 4, none⟩ (.int .i64 place)).drew.cell? p0 = some (.pointer (some ⟨b, 0, none⟩)) := ((unhide HP).2.cell (lt_of_cell hp0) n0).trans hp0
  have l2 := lt_of_cell hp2
  have P2 := hide hp2
  have F2 := hide f2
  clear hread h hp1 hp2 f2
  simp only [World.cell?_drew] at q1 q0
  go_enter Tryd.func107, Tryd.ntmps107
  go_wp2_with fail
  go_region
  all_goals
    go_wp2_with fail
    refine (unhide HR _ (unhide HP).2 (unhide HP).1).mono ?_
    rintro e w1 ⟨rfl, hr, hf⟩
    have hf' := (unhide HP).2.trans hf (fun _ _ h => h)
    have r2 := (hf'.cell l2 n2).trans (unhide P2)
    have g2 := (hf'.frozen l2 n2).trans (unhide F2)
    go_wp2_with fail
    go_end0
    exact ⟨rfl, w1, hr, hf', rfl⟩
set_option maxRecDepth 100000 in
set_option maxHeartbeats 400000 in
theorem rp_int_clo (b Fc : Nat) (caps : Array Value) (p0 p1 p2 : Addr) (nm : ByteArray) (sv old : Value) (all : List Nat) (place part p' : Nat) (x:Int) (w : World) (h : Rc w b nm sv all place part)
    (hp0 : w.cell? p0 = some (.pointer (some ⟨b, 0, none⟩))) (hp1 : w.cell? p1 = some (.func (.func Fc) #[] caps)) (hp2 : w.cell? p2 = some old) (f2 : w.frozen? p2 = false) (n0 : p0.block ≠ b) (n1 : p1.block ≠ b) (n2 : p2.block ≠ b)
    (he : ∀ W, (callFunc Fc caps).run Tryd.prog W = .ok (.enter Fc caps) W)
    (hread : ∀ wk, Fr (fun k => k = b) w wk → Rc wk b nm sv all place place → Calls Tryd.prog Fc caps wk fun e w' => e = .returned (.int .i64 x) ∧ Rc w' b nm sv all p' place ∧ Fr (fun k => k = b) wk w') :
    Calls Tryd.prog 108 #[.pointer (some p0), .pointer (some p1), .pointer (some p2)] w fun e w' => e = .returned (.tuple #[]) ∧ ∃ w1, Rc w1 b nm sv all p' place ∧ Fr (fun k => k = b) w w1 ∧ w' = w1.setCell p2 (.int .i64 x) := by
  have HR := hide hread
  have HP := hide (h.parted place)
  have h3 := h.c3
  have h4 := h.c4
  have z4 := h.fz 4
  have q1 : (w.setCell ⟨b, 4, none⟩ (.int .i64 place)).drew.cell? p1 = some (.func (.func Fc) #[] caps) := ((unhide HP).2.cell (lt_of_cell hp1) n1).trans hp1
  have q0 : (w.setCell ⟨b, 4, none⟩ (.int .i64 place)).drew.cell? p0 = some (.pointer (some ⟨b, 0, none⟩)) := ((unhide HP).2.cell (lt_of_cell hp0) n0).trans hp0
  have l2 := lt_of_cell hp2
  have P2 := hide hp2
  have F2 := hide f2
  clear hread h hp1 hp2 f2
  simp only [World.cell?_drew] at q1 q0
  go_enter Tryd.func108, Tryd.ntmps108
  go_wp2_with fail
  go_region
  all_goals
    go_wp2_with fail
    refine (unhide HR _ (unhide HP).2 (unhide HP).1).mono ?_
    rintro e w1 ⟨rfl, hr, hf⟩
    have hf' := (unhide HP).2.trans hf (fun _ _ h => h)
    have r2 := (hf'.cell l2 n2).trans (unhide P2)
    have g2 := (hf'.frozen l2 n2).trans (unhide F2)
    go_wp2_with fail
    go_end0
    exact ⟨rfl, w1, hr, hf', rfl⟩
set_option maxRecDepth 100000 in
set_option maxHeartbeats 400000 in
theorem rp_bytes_clo (b Fc : Nat) (caps : Array Value) (p0 p1 p2 : Addr) (nm : ByteArray) (sv old : Value) (all : List Nat) (place part p' n : Nat) (l : List Nat) (w : World) (h : Rc w b nm sv all place part)
    (hp0 : w.cell? p0 = some (.pointer (some ⟨b, 0, none⟩))) (hp1 : w.cell? p1 = some (.func (.func Fc) #[] caps)) (hp2 : w.cell? p2 = some old) (f2 : w.frozen? p2 = false) (n0 : p0.block ≠ b) (n1 : p1.block ≠ b) (n2 : p2.block ≠ b)
    (he : ∀ W, (callFunc Fc caps).run Tryd.prog W = .ok (.enter Fc caps) W)
    (hread : ∀ wk, Fr (fun k => k = b) w wk → Rc wk b nm sv all place place → Calls Tryd.prog Fc caps wk fun e w' => ∃ ao cap, e = .returned (.slice ao n cap) ∧ w'.ownsRow wk.heap.size 5 1 (.slice ao n cap) n (cellsOf l) ∧ Rc w' b nm sv all p' place ∧ Fr (fun k => k = b) wk w') :
    Calls Tryd.prog 94 #[.pointer (some p0), .pointer (some p1), .pointer (some p2)] w fun e w' => e = .returned (.tuple #[]) ∧ ∃ w1 ao cap, w1.ownsRow w.heap.size 5 1 (.slice ao n cap) n (cellsOf l) ∧ Rc w1 b nm sv all p' place ∧ Fr (fun k => k = b) w w1 ∧ w' = w1.setCell p2 (.slice ao n cap) := by
  have HR := hide hread
  have HP := hide (h.parted place)
  have h3 := h.c3
  have h4 := h.c4
  have z4 := h.fz 4
  have q1 : (w.setCell ⟨b, 4, none⟩ (.int .i64 place)).drew.cell? p1 = some (.func (.func Fc) #[] caps) := ((unhide HP).2.cell (lt_of_cell hp1) n1).trans hp1
  have q0 : (w.setCell ⟨b, 4, none⟩ (.int .i64 place)).drew.cell? p0 = some (.pointer (some ⟨b, 0, none⟩)) := ((unhide HP).2.cell (lt_of_cell hp0) n0).trans hp0
  have l2 := lt_of_cell hp2
  have P2 := hide hp2
  have F2 := hide f2
  clear hread h hp1 hp2 f2
  simp only [World.cell?_drew] at q1 q0
  go_enter Tryd.func94, Tryd.ntmps94
  go_wp2_with fail
  go_region
  all_goals
    go_wp2_with fail
    refine (unhide HR _ (unhide HP).2 (unhide HP).1).mono ?_
    rintro e w1 ⟨ao, cap, rfl, hown, hr, hf⟩
    have HO := hide hown
    clear hown
    have hf' := (unhide HP).2.trans hf (fun _ _ h => h)
    have r2 := (hf'.cell l2 n2).trans (unhide P2)
    have g2 := (hf'.frozen l2 n2).trans (unhide F2)
    go_wp2_with fail
    go_end0
    exact ⟨rfl, w1, ao, cap, by simpa using unhide HO, hr, hf', rfl⟩

/-- What a reader has. -/
structure Rst where
  nm : ByteArray
  all : List Nat
  place : Nat
  part : Nat
  f : Option (ByteArray × Nat × Addr)

structure R (w : World) (b : Nat) (F : Nat → Prop) (s : Rst) : Prop where
  lt : ∀ k, F k → k < w.heap.size
  lo : ∀ k, F k → 9 ≤ k
  fb : F b
  st : (s.f = none ∧ ∃ sv, Rc w b s.nm sv s.all s.place s.part ∧ ∀ g o m c, sv = .slice (some ⟨g, o, none⟩) m c → F g) ∨
    (∃ what place ea fb, s.f = some (what, place, ea) ∧ w.cell? ⟨b, 0, none⟩ = some (.string s.nm) ∧ (∀ i, w.frozen? ⟨b, i, none⟩ = false) ∧ w.cell? ⟨b, 1, none⟩ = some (.pointer (some ⟨fb, 0, none⟩)) ∧ F fb ∧ fb ≠ b ∧ w.heap[fb]? = some (faultObj what place ea))

theorem R.frame {w w' : World} {b : Nat} {F S : Nat → Prop} {s : Rst} (h : R w b F s) (hf : Fr S w w') (hS : ∀ k, F k → ¬ S k) : R w' b F s := by
  refine ⟨fun k hk => Nat.lt_of_lt_of_le (h.lt k hk) hf.size, h.lo, h.fb, ?_⟩
  have hlt := h.lt b h.fb
  have hb := hS b h.fb
  rcases h.st with ⟨h1, sv, hr, hF⟩ | ⟨what, place, ea, fb, h1, h2, h3, h4, h5, h6, h7⟩
  · exact .inl ⟨h1, sv, hr.frame hf hb (fun g o m c e => hS g (hF g o m c e)), hF⟩
  · exact .inr ⟨what, place, ea, fb, h1, (hf.cell hlt hb).trans h2, fun i => (hf.frozen hlt hb).trans (h3 i), (hf.cell hlt hb).trans h4, h5, h6, (hf.block fb (h.lt fb h5) (hS fb h5)).trans h7⟩

theorem R.rc {w : World} {b : Nat} {F : Nat → Prop} {s : Rst} (h : R w b F s) (hn : s.f = none) : ∃ sv, Rc w b s.nm sv s.all s.place s.part ∧ ∀ g o m c, sv = .slice (some ⟨g, o, none⟩) m c → F g := by
  rcases h.st with ⟨_, x⟩ | ⟨what, place, ea, fb, h1, _⟩
  · exact x
  · rw [hn] at h1; cases h1

/-- A reader that has read on. -/
theorem R.on {w w' : World} {b : Nat} {F : Nat → Prop} {s : Rst} {sv : Value} {p' part' : Nat} (h : R w b F s) (hn : s.f = none) (hF : ∀ g o m c, sv = .slice (some ⟨g, o, none⟩) m c → F g) (hr : Rc w' b s.nm sv s.all p' part') (hf : Fr (fun k => k = b) w w') : R w' b F { s with place := p', part := part' } :=
  ⟨fun k hk => Nat.lt_of_lt_of_le (h.lt k hk) hf.size, h.lo, h.fb, .inl ⟨hn, sv, hr, hF⟩⟩

theorem box3b (w : World) (b : Nat) (o1 o2 o3 : Obj) : Fr (fun k => k = b) w (((w.alloc o1).alloc o2).alloc o3) := (box3 w o1 o2 o3).mono (fun _ _ h => h.elim)

end Go.Proofs.YtikolmpgnpkdbaaDoor

namespace Go.Proofs.YtikolmpgnpkdbaaDoor
open Go.RowKit

theorem z32 (w : World) (v : Value) (t : TypeId) (o1 o2 : Obj) : (((w.alloc o1).alloc o2).alloc (.cells #[v] t)).frozen? ⟨w.heap.size + 1 + 1, 0, none⟩ = false := by
  rw [World.frozen?_alloc_at _ _ _ _ (by simp)]

theorem rp_fin {w w1 : World} {b p' : Nat} {F : Nat → Prop} {s : Rst} {sv V : Value} (h : R w b F s) (hn : s.f = none) (hF : ∀ g o m c, sv = .slice (some ⟨g, o, none⟩) m c → F g) (hr : Rc w1 b s.nm sv s.all p' s.place) (hf : Fr (fun k => k = b) w w1) :
    R ((w1.setCell ⟨w.heap.size + 1 + 1, 0, none⟩ V).setCell ⟨w.heap.size + 1 + 1, 0, none⟩ V) b F { s with place := p', part := s.place } ∧ Fr (fun k => k = b) w ((w1.setCell ⟨w.heap.size + 1 + 1, 0, none⟩ V).setCell ⟨w.heap.size + 1 + 1, 0, none⟩ V) := by
  have hlt := h.lt b h.fb
  have h2 : Fr (fun k => k = w.heap.size + 1 + 1) w1 ((w1.setCell ⟨w.heap.size + 1 + 1, 0, none⟩ V).setCell ⟨w.heap.size + 1 + 1, 0, none⟩ V) := Fr.setCell (S := fun k => k = w.heap.size + 1 + 1) (Fr.setCell (S := fun k => k = w.heap.size + 1 + 1) (Fr.refl _ _) (.inl rfl) _) (.inl rfl) _
  have h3 := hf.trans h2 (fun i hi e => by omega)
  exact ⟨h.on hn hF (hr.frame h2 (fun e => by omega) (fun g o m c e hg => by have := h.lt g (hF g o m c e); omega)) h3, h3⟩

theorem rp_uint8_att {wb : World} (b Fc : Nat) (caps : Array Value) (p0 p1 p2 : Addr) (nm : ByteArray) (sv old : Value) (all : List Nat) (place part p' : Nat) (x:Nat) (h : Rc wb b nm sv all place part)
    (hp0 : wb.cell? p0 = some (.pointer (some ⟨b, 0, none⟩))) (hp1 : wb.cell? p1 = some (.func (.func Fc) #[] caps)) (hp2 : wb.cell? p2 = some old) (f2 : wb.frozen? p2 = false) (n0 : p0.block ≠ b) (n1 : p1.block ≠ b) (n2 : p2.block ≠ b)
    (he : ∀ W, (callFunc Fc caps).run Tryd.prog W = .ok (.enter Fc caps) W)
    (hread : ∀ wk, Fr (fun k => k = b) wb wk → Rc wk b nm sv all place place → Calls Tryd.prog Fc caps wk fun e w' => e = .returned (.int .u8 x) ∧ Rc w' b nm sv all p' place ∧ Fr (fun k => k = b) wk w') :
    Calls Tryd.prog 54 #[.pointer (some ⟨b, 0, none⟩), .func (.func 92) #[] #[.pointer (some p0), .pointer (some p1), .pointer (some p2)]] wb fun e w' => e = .returned (.tuple #[]) ∧ ∃ w1, Rc w1 b nm sv all p' place ∧ Fr (fun k => k = b) wb w1 ∧ w' = w1.setCell p2 (.int .u8 x) := by
  have hk : Fr (fun _ => False) wb (wb.alloc (.cells #[.pointer (some ⟨b, 0, none⟩)] 108)) := (Fr.refl _ _).alloc _
  have hkb : Fr (fun k => k = b) wb (wb.alloc (.cells #[.pointer (some ⟨b, 0, none⟩)] 108)) := (Fr.refl _ _).alloc _
  refine attempt_ok b 92 _ (fun w' => ∃ w1, Rc w1 b nm sv all p' place ∧ Fr (fun k => k = b) wb w1 ∧ w' = w1.setCell p2 (.int .u8 x)) wb h.c1 (enters Tryd.func92 (by kernel_rfl) (by kernel_rfl) _) ?_
  refine (rp_uint8_clo b Fc caps p0 p1 p2 nm sv old all place part p' x _ (h.frame hk (fun h => h) (fun _ _ _ _ _ h => h)) ((hk.cell (lt_of_cell hp0) (fun h => h)).trans hp0) ((hk.cell (lt_of_cell hp1) (fun h => h)).trans hp1) ((hk.cell (lt_of_cell hp2) (fun h => h)).trans hp2) ((hk.frozen (lt_of_cell hp2) (fun h => h)).trans f2) n0 n1 n2 he (fun wk hf hr => hread wk (hkb.trans hf (fun _ _ h => h)) hr)).mono ?_
  rintro e w' ⟨rfl, w1, hr, hf, rfl⟩
  exact ⟨rfl, w1, hr, hkb.trans hf (fun _ _ h => h), rfl⟩

set_option maxRecDepth 100000 in
theorem rp_uint8_ok (b Fc : Nat) (caps : Array Value) (F : Nat → Prop) (s : Rst) (p' : Nat) (x:Nat) (w : World) (h : R w b F s) (hn : s.f = none) (he : ∀ W, (callFunc Fc caps).run Tryd.prog W = .ok (.enter Fc caps) W)
    (hread : ∀ wk sv, Fr (fun k => k = b) w wk → Rc wk b s.nm sv s.all s.place s.place → Calls Tryd.prog Fc caps wk fun e w' => e = .returned (.int .u8 x) ∧ Rc w' b s.nm sv s.all p' s.place ∧ Fr (fun k => k = b) wk w') :
    Calls Tryd.prog 51 #[.pointer (some ⟨b, 0, none⟩), .func (.func Fc) #[] caps] w fun e w' => e = .returned (.int .u8 x) ∧ R w' b F { s with place := p', part := s.place } ∧ Fr (fun k => k = b) w w' := by
  obtain ⟨sv, hr, hF⟩ := h.rc hn
  have hlt := h.lt b h.fb
  have hmf := mf
  have H := hide (And.intro h (And.intro hn (And.intro hr hF)))
  have HR := hide hread
  clear h hn hr hF hread
  go_enter Tryd.func51, Tryd.ntmps51
  go_wp2_with fail
  refine (rp_uint8_att b Fc caps ⟨w.heap.size, 0, none⟩ ⟨w.heap.size + 1, 0, none⟩ ⟨w.heap.size + 1 + 1, 0, none⟩ s.nm sv _ s.all s.place s.part p' x ((unhide H).2.2.1.frame (box3 w _ _ _) (fun h => h) (fun _ _ _ _ _ h => h)) (c30 _ _ _ _ _) (c31 _ _ _ _ _) (c32 _ _ _ _ _) (z32 _ _ _ _ _) (by show w.heap.size ≠ b; omega) (by show w.heap.size + 1 ≠ b; omega) (by show w.heap.size + 1 + 1 ≠ b; omega) he (fun wk hf hr => unhide HR wk sv ((box3b w b _ _ _).trans hf (fun _ _ h => h)) hr)).mono ?_
  rintro e w' ⟨rfl, w1, hr, hf, rfl⟩
  have hf1 := (box3b w b _ _ _).trans hf (fun _ _ h => h)
  have hc2 := (hf.cell (p := ⟨w.heap.size + 1 + 1, 0, none⟩) (by simp) (by show ¬ w.heap.size + 1 + 1 = b; omega)).trans (c32 _ _ _ _ _)
  have hz2 := (hf.frozen (p := ⟨w.heap.size + 1 + 1, 0, none⟩) (by simp) (by show ¬ w.heap.size + 1 + 1 = b; omega)).trans (z32 _ _ _ _ _)
  have HH := hide (And.intro hr hf1)
  clear hr hf1 hf
  go_wp2_with fail
  obtain ⟨hR, hF⟩ := rp_fin (V := .int .u8 x) (unhide H).1 (unhide H).2.1 (unhide H).2.2.2 (unhide HH).1 (unhide HH).2
  exact bodyPost_ret (v := .int .u8 x) (by simp [results, Tryd.results51, go_sem, hc2]) rfl ⟨rfl, hR, hF⟩
theorem rp_uint16_att {wb : World} (b Fc : Nat) (caps : Array Value) (p0 p1 p2 : Addr) (nm : ByteArray) (sv old : Value) (all : List Nat) (place part p' : Nat) (x:Nat) (h : Rc wb b nm sv all place part)
    (hp0 : wb.cell? p0 = some (.pointer (some ⟨b, 0, none⟩))) (hp1 : wb.cell? p1 = some (.func (.func Fc) #[] caps)) (hp2 : wb.cell? p2 = some old) (f2 : wb.frozen? p2 = false) (n0 : p0.block ≠ b) (n1 : p1.block ≠ b) (n2 : p2.block ≠ b)
    (he : ∀ W, (callFunc Fc caps).run Tryd.prog W = .ok (.enter Fc caps) W)
    (hread : ∀ wk, Fr (fun k => k = b) wb wk → Rc wk b nm sv all place place → Calls Tryd.prog Fc caps wk fun e w' => e = .returned (.int .u16 x) ∧ Rc w' b nm sv all p' place ∧ Fr (fun k => k = b) wk w') :
    Calls Tryd.prog 54 #[.pointer (some ⟨b, 0, none⟩), .func (.func 95) #[] #[.pointer (some p0), .pointer (some p1), .pointer (some p2)]] wb fun e w' => e = .returned (.tuple #[]) ∧ ∃ w1, Rc w1 b nm sv all p' place ∧ Fr (fun k => k = b) wb w1 ∧ w' = w1.setCell p2 (.int .u16 x) := by
  have hk : Fr (fun _ => False) wb (wb.alloc (.cells #[.pointer (some ⟨b, 0, none⟩)] 108)) := (Fr.refl _ _).alloc _
  have hkb : Fr (fun k => k = b) wb (wb.alloc (.cells #[.pointer (some ⟨b, 0, none⟩)] 108)) := (Fr.refl _ _).alloc _
  refine attempt_ok b 95 _ (fun w' => ∃ w1, Rc w1 b nm sv all p' place ∧ Fr (fun k => k = b) wb w1 ∧ w' = w1.setCell p2 (.int .u16 x)) wb h.c1 (enters Tryd.func95 (by kernel_rfl) (by kernel_rfl) _) ?_
  refine (rp_uint16_clo b Fc caps p0 p1 p2 nm sv old all place part p' x _ (h.frame hk (fun h => h) (fun _ _ _ _ _ h => h)) ((hk.cell (lt_of_cell hp0) (fun h => h)).trans hp0) ((hk.cell (lt_of_cell hp1) (fun h => h)).trans hp1) ((hk.cell (lt_of_cell hp2) (fun h => h)).trans hp2) ((hk.frozen (lt_of_cell hp2) (fun h => h)).trans f2) n0 n1 n2 he (fun wk hf hr => hread wk (hkb.trans hf (fun _ _ h => h)) hr)).mono ?_
  rintro e w' ⟨rfl, w1, hr, hf, rfl⟩
  exact ⟨rfl, w1, hr, hkb.trans hf (fun _ _ h => h), rfl⟩

set_option maxRecDepth 100000 in
theorem rp_uint16_ok (b Fc : Nat) (caps : Array Value) (F : Nat → Prop) (s : Rst) (p' : Nat) (x:Nat) (w : World) (h : R w b F s) (hn : s.f = none) (he : ∀ W, (callFunc Fc caps).run Tryd.prog W = .ok (.enter Fc caps) W)
    (hread : ∀ wk sv, Fr (fun k => k = b) w wk → Rc wk b s.nm sv s.all s.place s.place → Calls Tryd.prog Fc caps wk fun e w' => e = .returned (.int .u16 x) ∧ Rc w' b s.nm sv s.all p' s.place ∧ Fr (fun k => k = b) wk w') :
    Calls Tryd.prog 64 #[.pointer (some ⟨b, 0, none⟩), .func (.func Fc) #[] caps] w fun e w' => e = .returned (.int .u16 x) ∧ R w' b F { s with place := p', part := s.place } ∧ Fr (fun k => k = b) w w' := by
  obtain ⟨sv, hr, hF⟩ := h.rc hn
  have hlt := h.lt b h.fb
  have hmf := mf
  have H := hide (And.intro h (And.intro hn (And.intro hr hF)))
  have HR := hide hread
  clear h hn hr hF hread
  go_enter Tryd.func64, Tryd.ntmps64
  go_wp2_with fail
  refine (rp_uint16_att b Fc caps ⟨w.heap.size, 0, none⟩ ⟨w.heap.size + 1, 0, none⟩ ⟨w.heap.size + 1 + 1, 0, none⟩ s.nm sv _ s.all s.place s.part p' x ((unhide H).2.2.1.frame (box3 w _ _ _) (fun h => h) (fun _ _ _ _ _ h => h)) (c30 _ _ _ _ _) (c31 _ _ _ _ _) (c32 _ _ _ _ _) (z32 _ _ _ _ _) (by show w.heap.size ≠ b; omega) (by show w.heap.size + 1 ≠ b; omega) (by show w.heap.size + 1 + 1 ≠ b; omega) he (fun wk hf hr => unhide HR wk sv ((box3b w b _ _ _).trans hf (fun _ _ h => h)) hr)).mono ?_
  rintro e w' ⟨rfl, w1, hr, hf, rfl⟩
  have hf1 := (box3b w b _ _ _).trans hf (fun _ _ h => h)
  have hc2 := (hf.cell (p := ⟨w.heap.size + 1 + 1, 0, none⟩) (by simp) (by show ¬ w.heap.size + 1 + 1 = b; omega)).trans (c32 _ _ _ _ _)
  have hz2 := (hf.frozen (p := ⟨w.heap.size + 1 + 1, 0, none⟩) (by simp) (by show ¬ w.heap.size + 1 + 1 = b; omega)).trans (z32 _ _ _ _ _)
  have HH := hide (And.intro hr hf1)
  clear hr hf1 hf
  go_wp2_with fail
  obtain ⟨hR, hF⟩ := rp_fin (V := .int .u16 x) (unhide H).1 (unhide H).2.1 (unhide H).2.2.2 (unhide HH).1 (unhide HH).2
  exact bodyPost_ret (v := .int .u16 x) (by simp [results, Tryd.results64, go_sem, hc2]) rfl ⟨rfl, hR, hF⟩
theorem rp_uint32_att {wb : World} (b Fc : Nat) (caps : Array Value) (p0 p1 p2 : Addr) (nm : ByteArray) (sv old : Value) (all : List Nat) (place part p' : Nat) (x:Nat) (h : Rc wb b nm sv all place part)
    (hp0 : wb.cell? p0 = some (.pointer (some ⟨b, 0, none⟩))) (hp1 : wb.cell? p1 = some (.func (.func Fc) #[] caps)) (hp2 : wb.cell? p2 = some old) (f2 : wb.frozen? p2 = false) (n0 : p0.block ≠ b) (n1 : p1.block ≠ b) (n2 : p2.block ≠ b)
    (he : ∀ W, (callFunc Fc caps).run Tryd.prog W = .ok (.enter Fc caps) W)
    (hread : ∀ wk, Fr (fun k => k = b) wb wk → Rc wk b nm sv all place place → Calls Tryd.prog Fc caps wk fun e w' => e = .returned (.int .u32 x) ∧ Rc w' b nm sv all p' place ∧ Fr (fun k => k = b) wk w') :
    Calls Tryd.prog 54 #[.pointer (some ⟨b, 0, none⟩), .func (.func 104) #[] #[.pointer (some p0), .pointer (some p1), .pointer (some p2)]] wb fun e w' => e = .returned (.tuple #[]) ∧ ∃ w1, Rc w1 b nm sv all p' place ∧ Fr (fun k => k = b) wb w1 ∧ w' = w1.setCell p2 (.int .u32 x) := by
  have hk : Fr (fun _ => False) wb (wb.alloc (.cells #[.pointer (some ⟨b, 0, none⟩)] 108)) := (Fr.refl _ _).alloc _
  have hkb : Fr (fun k => k = b) wb (wb.alloc (.cells #[.pointer (some ⟨b, 0, none⟩)] 108)) := (Fr.refl _ _).alloc _
  refine attempt_ok b 104 _ (fun w' => ∃ w1, Rc w1 b nm sv all p' place ∧ Fr (fun k => k = b) wb w1 ∧ w' = w1.setCell p2 (.int .u32 x)) wb h.c1 (enters Tryd.func104 (by kernel_rfl) (by kernel_rfl) _) ?_
  refine (rp_uint32_clo b Fc caps p0 p1 p2 nm sv old all place part p' x _ (h.frame hk (fun h => h) (fun _ _ _ _ _ h => h)) ((hk.cell (lt_of_cell hp0) (fun h => h)).trans hp0) ((hk.cell (lt_of_cell hp1) (fun h => h)).trans hp1) ((hk.cell (lt_of_cell hp2) (fun h => h)).trans hp2) ((hk.frozen (lt_of_cell hp2) (fun h => h)).trans f2) n0 n1 n2 he (fun wk hf hr => hread wk (hkb.trans hf (fun _ _ h => h)) hr)).mono ?_
  rintro e w' ⟨rfl, w1, hr, hf, rfl⟩
  exact ⟨rfl, w1, hr, hkb.trans hf (fun _ _ h => h), rfl⟩

set_option maxRecDepth 100000 in
theorem rp_uint32_ok (b Fc : Nat) (caps : Array Value) (F : Nat → Prop) (s : Rst) (p' : Nat) (x:Nat) (w : World) (h : R w b F s) (hn : s.f = none) (he : ∀ W, (callFunc Fc caps).run Tryd.prog W = .ok (.enter Fc caps) W)
    (hread : ∀ wk sv, Fr (fun k => k = b) w wk → Rc wk b s.nm sv s.all s.place s.place → Calls Tryd.prog Fc caps wk fun e w' => e = .returned (.int .u32 x) ∧ Rc w' b s.nm sv s.all p' s.place ∧ Fr (fun k => k = b) wk w') :
    Calls Tryd.prog 80 #[.pointer (some ⟨b, 0, none⟩), .func (.func Fc) #[] caps] w fun e w' => e = .returned (.int .u32 x) ∧ R w' b F { s with place := p', part := s.place } ∧ Fr (fun k => k = b) w w' := by
  obtain ⟨sv, hr, hF⟩ := h.rc hn
  have hlt := h.lt b h.fb
  have hmf := mf
  have H := hide (And.intro h (And.intro hn (And.intro hr hF)))
  have HR := hide hread
  clear h hn hr hF hread
  go_enter Tryd.func80, Tryd.ntmps80
  go_wp2_with fail
  refine (rp_uint32_att b Fc caps ⟨w.heap.size, 0, none⟩ ⟨w.heap.size + 1, 0, none⟩ ⟨w.heap.size + 1 + 1, 0, none⟩ s.nm sv _ s.all s.place s.part p' x ((unhide H).2.2.1.frame (box3 w _ _ _) (fun h => h) (fun _ _ _ _ _ h => h)) (c30 _ _ _ _ _) (c31 _ _ _ _ _) (c32 _ _ _ _ _) (z32 _ _ _ _ _) (by show w.heap.size ≠ b; omega) (by show w.heap.size + 1 ≠ b; omega) (by show w.heap.size + 1 + 1 ≠ b; omega) he (fun wk hf hr => unhide HR wk sv ((box3b w b _ _ _).trans hf (fun _ _ h => h)) hr)).mono ?_
  rintro e w' ⟨rfl, w1, hr, hf, rfl⟩
  have hf1 := (box3b w b _ _ _).trans hf (fun _ _ h => h)
  have hc2 := (hf.cell (p := ⟨w.heap.size + 1 + 1, 0, none⟩) (by simp) (by show ¬ w.heap.size + 1 + 1 = b; omega)).trans (c32 _ _ _ _ _)
  have hz2 := (hf.frozen (p := ⟨w.heap.size + 1 + 1, 0, none⟩) (by simp) (by show ¬ w.heap.size + 1 + 1 = b; omega)).trans (z32 _ _ _ _ _)
  have HH := hide (And.intro hr hf1)
  clear hr hf1 hf
  go_wp2_with fail
  obtain ⟨hR, hF⟩ := rp_fin (V := .int .u32 x) (unhide H).1 (unhide H).2.1 (unhide H).2.2.2 (unhide HH).1 (unhide HH).2
  exact bodyPost_ret (v := .int .u32 x) (by simp [results, Tryd.results80, go_sem, hc2]) rfl ⟨rfl, hR, hF⟩
theorem rp_uint64_att {wb : World} (b Fc : Nat) (caps : Array Value) (p0 p1 p2 : Addr) (nm : ByteArray) (sv old : Value) (all : List Nat) (place part p' : Nat) (x:Nat) (h : Rc wb b nm sv all place part)
    (hp0 : wb.cell? p0 = some (.pointer (some ⟨b, 0, none⟩))) (hp1 : wb.cell? p1 = some (.func (.func Fc) #[] caps)) (hp2 : wb.cell? p2 = some old) (f2 : wb.frozen? p2 = false) (n0 : p0.block ≠ b) (n1 : p1.block ≠ b) (n2 : p2.block ≠ b)
    (he : ∀ W, (callFunc Fc caps).run Tryd.prog W = .ok (.enter Fc caps) W)
    (hread : ∀ wk, Fr (fun k => k = b) wb wk → Rc wk b nm sv all place place → Calls Tryd.prog Fc caps wk fun e w' => e = .returned (.int .u64 x) ∧ Rc w' b nm sv all p' place ∧ Fr (fun k => k = b) wk w') :
    Calls Tryd.prog 54 #[.pointer (some ⟨b, 0, none⟩), .func (.func 105) #[] #[.pointer (some p0), .pointer (some p1), .pointer (some p2)]] wb fun e w' => e = .returned (.tuple #[]) ∧ ∃ w1, Rc w1 b nm sv all p' place ∧ Fr (fun k => k = b) wb w1 ∧ w' = w1.setCell p2 (.int .u64 x) := by
  have hk : Fr (fun _ => False) wb (wb.alloc (.cells #[.pointer (some ⟨b, 0, none⟩)] 108)) := (Fr.refl _ _).alloc _
  have hkb : Fr (fun k => k = b) wb (wb.alloc (.cells #[.pointer (some ⟨b, 0, none⟩)] 108)) := (Fr.refl _ _).alloc _
  refine attempt_ok b 105 _ (fun w' => ∃ w1, Rc w1 b nm sv all p' place ∧ Fr (fun k => k = b) wb w1 ∧ w' = w1.setCell p2 (.int .u64 x)) wb h.c1 (enters Tryd.func105 (by kernel_rfl) (by kernel_rfl) _) ?_
  refine (rp_uint64_clo b Fc caps p0 p1 p2 nm sv old all place part p' x _ (h.frame hk (fun h => h) (fun _ _ _ _ _ h => h)) ((hk.cell (lt_of_cell hp0) (fun h => h)).trans hp0) ((hk.cell (lt_of_cell hp1) (fun h => h)).trans hp1) ((hk.cell (lt_of_cell hp2) (fun h => h)).trans hp2) ((hk.frozen (lt_of_cell hp2) (fun h => h)).trans f2) n0 n1 n2 he (fun wk hf hr => hread wk (hkb.trans hf (fun _ _ h => h)) hr)).mono ?_
  rintro e w' ⟨rfl, w1, hr, hf, rfl⟩
  exact ⟨rfl, w1, hr, hkb.trans hf (fun _ _ h => h), rfl⟩

set_option maxRecDepth 100000 in
theorem rp_uint64_ok (b Fc : Nat) (caps : Array Value) (F : Nat → Prop) (s : Rst) (p' : Nat) (x:Nat) (w : World) (h : R w b F s) (hn : s.f = none) (he : ∀ W, (callFunc Fc caps).run Tryd.prog W = .ok (.enter Fc caps) W)
    (hread : ∀ wk sv, Fr (fun k => k = b) w wk → Rc wk b s.nm sv s.all s.place s.place → Calls Tryd.prog Fc caps wk fun e w' => e = .returned (.int .u64 x) ∧ Rc w' b s.nm sv s.all p' s.place ∧ Fr (fun k => k = b) wk w') :
    Calls Tryd.prog 82 #[.pointer (some ⟨b, 0, none⟩), .func (.func Fc) #[] caps] w fun e w' => e = .returned (.int .u64 x) ∧ R w' b F { s with place := p', part := s.place } ∧ Fr (fun k => k = b) w w' := by
  obtain ⟨sv, hr, hF⟩ := h.rc hn
  have hlt := h.lt b h.fb
  have hmf := mf
  have H := hide (And.intro h (And.intro hn (And.intro hr hF)))
  have HR := hide hread
  clear h hn hr hF hread
  go_enter Tryd.func82, Tryd.ntmps82
  go_wp2_with fail
  refine (rp_uint64_att b Fc caps ⟨w.heap.size, 0, none⟩ ⟨w.heap.size + 1, 0, none⟩ ⟨w.heap.size + 1 + 1, 0, none⟩ s.nm sv _ s.all s.place s.part p' x ((unhide H).2.2.1.frame (box3 w _ _ _) (fun h => h) (fun _ _ _ _ _ h => h)) (c30 _ _ _ _ _) (c31 _ _ _ _ _) (c32 _ _ _ _ _) (z32 _ _ _ _ _) (by show w.heap.size ≠ b; omega) (by show w.heap.size + 1 ≠ b; omega) (by show w.heap.size + 1 + 1 ≠ b; omega) he (fun wk hf hr => unhide HR wk sv ((box3b w b _ _ _).trans hf (fun _ _ h => h)) hr)).mono ?_
  rintro e w' ⟨rfl, w1, hr, hf, rfl⟩
  have hf1 := (box3b w b _ _ _).trans hf (fun _ _ h => h)
  have hc2 := (hf.cell (p := ⟨w.heap.size + 1 + 1, 0, none⟩) (by simp) (by show ¬ w.heap.size + 1 + 1 = b; omega)).trans (c32 _ _ _ _ _)
  have hz2 := (hf.frozen (p := ⟨w.heap.size + 1 + 1, 0, none⟩) (by simp) (by show ¬ w.heap.size + 1 + 1 = b; omega)).trans (z32 _ _ _ _ _)
  have HH := hide (And.intro hr hf1)
  clear hr hf1 hf
  go_wp2_with fail
  obtain ⟨hR, hF⟩ := rp_fin (V := .int .u64 x) (unhide H).1 (unhide H).2.1 (unhide H).2.2.2 (unhide HH).1 (unhide HH).2
  exact bodyPost_ret (v := .int .u64 x) (by simp [results, Tryd.results82, go_sem, hc2]) rfl ⟨rfl, hR, hF⟩
theorem rp_string_att {wb : World} (b Fc : Nat) (caps : Array Value) (p0 p1 p2 : Addr) (nm : ByteArray) (sv old : Value) (all : List Nat) (place part p' : Nat) (x:ByteArray) (h : Rc wb b nm sv all place part)
    (hp0 : wb.cell? p0 = some (.pointer (some ⟨b, 0, none⟩))) (hp1 : wb.cell? p1 = some (.func (.func Fc) #[] caps)) (hp2 : wb.cell? p2 = some old) (f2 : wb.frozen? p2 = false) (n0 : p0.block ≠ b) (n1 : p1.block ≠ b) (n2 : p2.block ≠ b)
    (he : ∀ W, (callFunc Fc caps).run Tryd.prog W = .ok (.enter Fc caps) W)
    (hread : ∀ wk, Fr (fun k => k = b) wb wk → Rc wk b nm sv all place place → Calls Tryd.prog Fc caps wk fun e w' => e = .returned (.string x) ∧ Rc w' b nm sv all p' place ∧ Fr (fun k => k = b) wk w') :
    Calls Tryd.prog 54 #[.pointer (some ⟨b, 0, none⟩), .func (.func 107) #[] #[.pointer (some p0), .pointer (some p1), .pointer (some p2)]] wb fun e w' => e = .returned (.tuple #[]) ∧ ∃ w1, Rc w1 b nm sv all p' place ∧ Fr (fun k => k = b) wb w1 ∧ w' = w1.setCell p2 (.string x) := by
  have hk : Fr (fun _ => False) wb (wb.alloc (.cells #[.pointer (some ⟨b, 0, none⟩)] 108)) := (Fr.refl _ _).alloc _
  have hkb : Fr (fun k => k = b) wb (wb.alloc (.cells #[.pointer (some ⟨b, 0, none⟩)] 108)) := (Fr.refl _ _).alloc _
  refine attempt_ok b 107 _ (fun w' => ∃ w1, Rc w1 b nm sv all p' place ∧ Fr (fun k => k = b) wb w1 ∧ w' = w1.setCell p2 (.string x)) wb h.c1 (enters Tryd.func107 (by kernel_rfl) (by kernel_rfl) _) ?_
  refine (rp_string_clo b Fc caps p0 p1 p2 nm sv old all place part p' x _ (h.frame hk (fun h => h) (fun _ _ _ _ _ h => h)) ((hk.cell (lt_of_cell hp0) (fun h => h)).trans hp0) ((hk.cell (lt_of_cell hp1) (fun h => h)).trans hp1) ((hk.cell (lt_of_cell hp2) (fun h => h)).trans hp2) ((hk.frozen (lt_of_cell hp2) (fun h => h)).trans f2) n0 n1 n2 he (fun wk hf hr => hread wk (hkb.trans hf (fun _ _ h => h)) hr)).mono ?_
  rintro e w' ⟨rfl, w1, hr, hf, rfl⟩
  exact ⟨rfl, w1, hr, hkb.trans hf (fun _ _ h => h), rfl⟩

set_option maxRecDepth 100000 in
theorem rp_string_ok (b Fc : Nat) (caps : Array Value) (F : Nat → Prop) (s : Rst) (p' : Nat) (x:ByteArray) (w : World) (h : R w b F s) (hn : s.f = none) (he : ∀ W, (callFunc Fc caps).run Tryd.prog W = .ok (.enter Fc caps) W)
    (hread : ∀ wk sv, Fr (fun k => k = b) w wk → Rc wk b s.nm sv s.all s.place s.place → Calls Tryd.prog Fc caps wk fun e w' => e = .returned (.string x) ∧ Rc w' b s.nm sv s.all p' s.place ∧ Fr (fun k => k = b) wk w') :
    Calls Tryd.prog 87 #[.pointer (some ⟨b, 0, none⟩), .func (.func Fc) #[] caps] w fun e w' => e = .returned (.string x) ∧ R w' b F { s with place := p', part := s.place } ∧ Fr (fun k => k = b) w w' := by
  obtain ⟨sv, hr, hF⟩ := h.rc hn
  have hlt := h.lt b h.fb
  have hmf := mf
  have H := hide (And.intro h (And.intro hn (And.intro hr hF)))
  have HR := hide hread
  clear h hn hr hF hread
  go_enter Tryd.func87, Tryd.ntmps87
  go_wp2_with fail
  refine (rp_string_att b Fc caps ⟨w.heap.size, 0, none⟩ ⟨w.heap.size + 1, 0, none⟩ ⟨w.heap.size + 1 + 1, 0, none⟩ s.nm sv _ s.all s.place s.part p' x ((unhide H).2.2.1.frame (box3 w _ _ _) (fun h => h) (fun _ _ _ _ _ h => h)) (c30 _ _ _ _ _) (c31 _ _ _ _ _) (c32 _ _ _ _ _) (z32 _ _ _ _ _) (by show w.heap.size ≠ b; omega) (by show w.heap.size + 1 ≠ b; omega) (by show w.heap.size + 1 + 1 ≠ b; omega) he (fun wk hf hr => unhide HR wk sv ((box3b w b _ _ _).trans hf (fun _ _ h => h)) hr)).mono ?_
  rintro e w' ⟨rfl, w1, hr, hf, rfl⟩
  have hf1 := (box3b w b _ _ _).trans hf (fun _ _ h => h)
  have hc2 := (hf.cell (p := ⟨w.heap.size + 1 + 1, 0, none⟩) (by simp) (by show ¬ w.heap.size + 1 + 1 = b; omega)).trans (c32 _ _ _ _ _)
  have hz2 := (hf.frozen (p := ⟨w.heap.size + 1 + 1, 0, none⟩) (by simp) (by show ¬ w.heap.size + 1 + 1 = b; omega)).trans (z32 _ _ _ _ _)
  have HH := hide (And.intro hr hf1)
  clear hr hf1 hf
  go_wp2_with fail
  obtain ⟨hR, hF⟩ := rp_fin (V := .string x) (unhide H).1 (unhide H).2.1 (unhide H).2.2.2 (unhide HH).1 (unhide HH).2
  exact bodyPost_ret (v := .string x) (by simp [results, Tryd.results87, go_sem, hc2]) rfl ⟨rfl, hR, hF⟩
theorem rp_int_att {wb : World} (b Fc : Nat) (caps : Array Value) (p0 p1 p2 : Addr) (nm : ByteArray) (sv old : Value) (all : List Nat) (place part p' : Nat) (x:Int) (h : Rc wb b nm sv all place part)
    (hp0 : wb.cell? p0 = some (.pointer (some ⟨b, 0, none⟩))) (hp1 : wb.cell? p1 = some (.func (.func Fc) #[] caps)) (hp2 : wb.cell? p2 = some old) (f2 : wb.frozen? p2 = false) (n0 : p0.block ≠ b) (n1 : p1.block ≠ b) (n2 : p2.block ≠ b)
    (he : ∀ W, (callFunc Fc caps).run Tryd.prog W = .ok (.enter Fc caps) W)
    (hread : ∀ wk, Fr (fun k => k = b) wb wk → Rc wk b nm sv all place place → Calls Tryd.prog Fc caps wk fun e w' => e = .returned (.int .i64 x) ∧ Rc w' b nm sv all p' place ∧ Fr (fun k => k = b) wk w') :
    Calls Tryd.prog 54 #[.pointer (some ⟨b, 0, none⟩), .func (.func 108) #[] #[.pointer (some p0), .pointer (some p1), .pointer (some p2)]] wb fun e w' => e = .returned (.tuple #[]) ∧ ∃ w1, Rc w1 b nm sv all p' place ∧ Fr (fun k => k = b) wb w1 ∧ w' = w1.setCell p2 (.int .i64 x) := by
  have hk : Fr (fun _ => False) wb (wb.alloc (.cells #[.pointer (some ⟨b, 0, none⟩)] 108)) := (Fr.refl _ _).alloc _
  have hkb : Fr (fun k => k = b) wb (wb.alloc (.cells #[.pointer (some ⟨b, 0, none⟩)] 108)) := (Fr.refl _ _).alloc _
  refine attempt_ok b 108 _ (fun w' => ∃ w1, Rc w1 b nm sv all p' place ∧ Fr (fun k => k = b) wb w1 ∧ w' = w1.setCell p2 (.int .i64 x)) wb h.c1 (enters Tryd.func108 (by kernel_rfl) (by kernel_rfl) _) ?_
  refine (rp_int_clo b Fc caps p0 p1 p2 nm sv old all place part p' x _ (h.frame hk (fun h => h) (fun _ _ _ _ _ h => h)) ((hk.cell (lt_of_cell hp0) (fun h => h)).trans hp0) ((hk.cell (lt_of_cell hp1) (fun h => h)).trans hp1) ((hk.cell (lt_of_cell hp2) (fun h => h)).trans hp2) ((hk.frozen (lt_of_cell hp2) (fun h => h)).trans f2) n0 n1 n2 he (fun wk hf hr => hread wk (hkb.trans hf (fun _ _ h => h)) hr)).mono ?_
  rintro e w' ⟨rfl, w1, hr, hf, rfl⟩
  exact ⟨rfl, w1, hr, hkb.trans hf (fun _ _ h => h), rfl⟩

set_option maxRecDepth 100000 in
theorem rp_int_ok (b Fc : Nat) (caps : Array Value) (F : Nat → Prop) (s : Rst) (p' : Nat) (x:Int) (w : World) (h : R w b F s) (hn : s.f = none) (he : ∀ W, (callFunc Fc caps).run Tryd.prog W = .ok (.enter Fc caps) W)
    (hread : ∀ wk sv, Fr (fun k => k = b) w wk → Rc wk b s.nm sv s.all s.place s.place → Calls Tryd.prog Fc caps wk fun e w' => e = .returned (.int .i64 x) ∧ Rc w' b s.nm sv s.all p' s.place ∧ Fr (fun k => k = b) wk w') :
    Calls Tryd.prog 89 #[.pointer (some ⟨b, 0, none⟩), .func (.func Fc) #[] caps] w fun e w' => e = .returned (.int .i64 x) ∧ R w' b F { s with place := p', part := s.place } ∧ Fr (fun k => k = b) w w' := by
  obtain ⟨sv, hr, hF⟩ := h.rc hn
  have hlt := h.lt b h.fb
  have hmf := mf
  have H := hide (And.intro h (And.intro hn (And.intro hr hF)))
  have HR := hide hread
  clear h hn hr hF hread
  go_enter Tryd.func89, Tryd.ntmps89
  go_wp2_with fail
  refine (rp_int_att b Fc caps ⟨w.heap.size, 0, none⟩ ⟨w.heap.size + 1, 0, none⟩ ⟨w.heap.size + 1 + 1, 0, none⟩ s.nm sv _ s.all s.place s.part p' x ((unhide H).2.2.1.frame (box3 w _ _ _) (fun h => h) (fun _ _ _ _ _ h => h)) (c30 _ _ _ _ _) (c31 _ _ _ _ _) (c32 _ _ _ _ _) (z32 _ _ _ _ _) (by show w.heap.size ≠ b; omega) (by show w.heap.size + 1 ≠ b; omega) (by show w.heap.size + 1 + 1 ≠ b; omega) he (fun wk hf hr => unhide HR wk sv ((box3b w b _ _ _).trans hf (fun _ _ h => h)) hr)).mono ?_
  rintro e w' ⟨rfl, w1, hr, hf, rfl⟩
  have hf1 := (box3b w b _ _ _).trans hf (fun _ _ h => h)
  have hc2 := (hf.cell (p := ⟨w.heap.size + 1 + 1, 0, none⟩) (by simp) (by show ¬ w.heap.size + 1 + 1 = b; omega)).trans (c32 _ _ _ _ _)
  have hz2 := (hf.frozen (p := ⟨w.heap.size + 1 + 1, 0, none⟩) (by simp) (by show ¬ w.heap.size + 1 + 1 = b; omega)).trans (z32 _ _ _ _ _)
  have HH := hide (And.intro hr hf1)
  clear hr hf1 hf
  go_wp2_with fail
  obtain ⟨hR, hF⟩ := rp_fin (V := .int .i64 x) (unhide H).1 (unhide H).2.1 (unhide H).2.2.2 (unhide HH).1 (unhide HH).2
  exact bodyPost_ret (v := .int .i64 x) (by simp [results, Tryd.results89, go_sem, hc2]) rfl ⟨rfl, hR, hF⟩
end Go.Proofs.YtikolmpgnpkdbaaDoor

