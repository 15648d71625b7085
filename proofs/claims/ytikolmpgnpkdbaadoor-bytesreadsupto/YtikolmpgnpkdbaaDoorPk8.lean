import Derived.Test.YtikolmpgnpkdbaaDoorPk7
namespace Go.Proofs.YtikolmpgnpkdbaaDoor
open Go.RowKit

/-- Why a reader's count gives up. -/
def CntBad (all : List Nat) (place : Nat) (most : Int) (E : Nat → Addr) (ea : Addr) : Prop :=
  (all.length < 4 + place ∧ ea = E 1) ∨ (4 + place ≤ all.length ∧ most < (val ((all.drop place).take 4) : Int) ∧ ea = E 2)
theorem rcount_neg (b place part : Nat) (most : Int) (nm : ByteArray) (sv : Value) (all : List Nat) (E : Nat → Addr) (w : World) (hb : 9 ≤ b) (h0 : most < 0) (hg : Gl w E) (h : Rc w b nm sv all place part) (hn : 4 + place ≤ all.length) :
    Calls Tryd.prog 62 #[.pointer (some ⟨b, 0, none⟩), .int .i64 most] w fun e w' => ∃ fa, e = .panicked [thrown fa] ∧ BadR w w' b fa nm part (E 2) := by
  have HT := hide (rnumber_ok b 4 place part nm sv all E w (by decide) hg h hn)
  have HG := hide hg
  clear hg h
  generalize val ((all.drop place).take 4) = x at *
  go_enter Tryd.func62, Tryd.ntmps62
  go_wp2_with fail
  refine (unhide HT).mono ?_
  rintro e w1 ⟨rfl, hr, hf⟩
  have he := ((unhide HG).frb hf hb).e2
  have c0 := hr.c0
  have c4 := hr.c4
  have HRF := hide (And.intro hr hf)
  clear hr hf HT HG
  go_wp2_with fail
  refine (rrefuse_yes b part nm (E 2) w1 c0 c4).mono ?_
  rintro e w' ⟨rfl, rfl⟩
  exact ⟨rfl, _, rfl, BadR.of (unhide HRF).1 (unhide HRF).2 (bad_of w1 nm part (E 2))⟩
theorem rcount_bad {b place part : Nat} {most : Int} {nm : ByteArray} {sv : Value} {all : List Nat} {E : Nat → Addr} {ea : Addr} {w : World} (hc : CntBad all place most E ea) (hb : 9 ≤ b) (hm : most < 9223372036854775808) (hg : Gl w E) (h : Rc w b nm sv all place part) :
    Calls Tryd.prog 62 #[.pointer (some ⟨b, 0, none⟩), .int .i64 most] w fun e w' => ∃ fa, e = .panicked [thrown fa] ∧ BadR w w' b fa nm part ea := by
  rcases hc with ⟨h1, rfl⟩ | ⟨h1, h2, rfl⟩
  · exact rcount_short b place part most nm sv all E w hg h h1
  · by_cases h0 : most < 0
    · exact rcount_neg b place part most nm sv all E w hb h0 hg h h1
    · exact rcount_long b place part most nm sv all E w hb hm (by omega) hg h h1 h2

theorem rCount_clob (b place part : Nat) (most : Int) (p0 p1 ea : Addr) (nm : ByteArray) (sv : Value) (all : List Nat) (E : Nat → Addr) (w : World) (hc : CntBad all place most E ea) (hb : 9 ≤ b) (hm : most < 9223372036854775808) (hg : Gl w E) (h : Rc w b nm sv all place part)
    (hp0 : w.cell? p0 = some (.pointer (some ⟨b, 0, none⟩))) (hp1 : w.cell? p1 = some (.int .i64 most)) :
    Calls Tryd.prog 90 #[.pointer (some p0), .pointer (some p1)] w fun e w' => ∃ fa, e = .panicked [thrown fa] ∧ BadR w w' b fa nm part ea := by
  have HC := hide (rcount_bad hc hb hm hg h)
  clear hg h hc
  go_enter Tryd.func90, Tryd.ntmps90
  go_wp2_with fail
  refine (unhide HC).mono ?_
  rintro e w1 ⟨fa, rfl, hB⟩
  exact ⟨rfl, fa, rfl, hB⟩

theorem frd (b : Nat) (w : World) : Fr (fun k => k = b) w w.drew := (Fr.refl _ _).drew

set_option maxRecDepth 100000 in
set_option maxHeartbeats 1000000 in
theorem rBytes_clob (b place part : Nat) (most : Int) (p0 p1 ea : Addr) (nm : ByteArray) (sv : Value) (all : List Nat) (E : Nat → Addr) (w : World) (hc : CntBad all place most E ea) (hb : 9 ≤ b) (hm : most < 9223372036854775808) (hg : Gl w E) (h : Rc w b nm sv all place part)
    (hp0 : w.cell? p0 = some (.pointer (some ⟨b, 0, none⟩))) (hp1 : w.cell? p1 = some (.int .i64 most)) :
    Calls Tryd.prog 60 #[.pointer (some p0), .pointer (some p1)] w fun e w' => ∃ fa, e = .panicked [thrown fa] ∧ BadR w w' b fa nm part ea := by
  have HC := hide (rcount_bad hc hb hm hg.drew h.drew)
  clear hg h hc
  go_enter Tryd.func60, Tryd.ntmps60
  go_wp2_with fail
  go_region_dies
  all_goals
    go_wp2_with fail
    refine (unhide HC).mono ?_
    rintro e w1 ⟨fa, rfl, hB⟩
    exact ⟨rfl, fa, rfl, hB.before (frd b w)⟩

set_option maxRecDepth 100000 in
set_option maxHeartbeats 1000000 in
theorem rText_clob (b place part : Nat) (most : Int) (p0 p1 ea : Addr) (nm : ByteArray) (sv : Value) (all : List Nat) (E : Nat → Addr) (w : World) (hc : CntBad all place most E ea) (hb : 9 ≤ b) (hm : most < 9223372036854775808) (hg : Gl w E) (h : Rc w b nm sv all place part)
    (hp0 : w.cell? p0 = some (.pointer (some ⟨b, 0, none⟩))) (hp1 : w.cell? p1 = some (.int .i64 most)) :
    Calls Tryd.prog 88 #[.pointer (some p0), .pointer (some p1)] w fun e w' => ∃ fa, e = .panicked [thrown fa] ∧ BadR w w' b fa nm part ea := by
  have HC := hide (rcount_bad hc hb hm hg.drew h.drew)
  clear hg h hc
  go_enter Tryd.func88, Tryd.ntmps88
  go_wp2_with fail
  go_region_dies
  all_goals
    go_wp2_with fail
    refine (unhide HC).mono ?_
    rintro e w1 ⟨fa, rfl, hB⟩
    exact ⟨rfl, fa, rfl, hB.before (frd b w)⟩

end Go.Proofs.YtikolmpgnpkdbaaDoor

namespace Go.Proofs.YtikolmpgnpkdbaaDoor
open Go.RowKit

theorem rF32_clos (b place part : Nat) (p0 : Addr) (nm : ByteArray) (sv : Value) (all : List Nat) (E : Nat → Addr) (w : World) (hg : Gl w E) (h : Rc w b nm sv all place part)
    (hp0 : w.cell? p0 = some (.pointer (some ⟨b, 0, none⟩))) (hn : all.length < 4 + place) :
    Calls Tryd.prog 85 #[.pointer (some p0)] w fun e w' => ∃ fa, e = .panicked [thrown fa] ∧ BadR w w' b fa nm part (E 1) := by
  have HT := hide (rnumber_bad b 4 place part nm sv all E w (by decide) hg h hn)
  have H := hide h
  clear hg h
  go_enter Tryd.func85, Tryd.ntmps85
  go_wp2_with fail
  refine (unhide HT).mono ?_
  rintro e w1 ⟨fa, rfl, hB⟩
  exact ⟨rfl, fa, rfl, BadR.of (unhide H) (Fr.refl _ _) hB⟩

set_option maxHeartbeats 2000000 in
set_option maxRecDepth 100000 in
theorem rF32_clob (b place part : Nat) (p0 er : Addr) (nm : ByteArray) (sv : Value) (all : List Nat) (E : Nat → Addr) (w : World) (hb : 9 ≤ b) (hg : Gl w E) (hr : Rg w er) (h : Rc w b nm sv all place part) (n0 : p0.block ≠ b)
    (hp0 : w.cell? p0 = some (.pointer (some ⟨b, 0, none⟩))) (hn : 4 + place ≤ all.length) (hq : quantB (val ((all.drop place).take 4)) = false) :
    Calls Tryd.prog 85 #[.pointer (some p0)] w fun e w' => ∃ fa, e = .panicked [thrown fa] ∧ BadR w w' b fa nm part er := by
  have HT := hide (rnumber_ok b 4 place part nm sv all E w (by decide) hg h hn)
  have hlt : val ((all.drop place).take 4) < 4294967296 := by
    have h1 := val_lt ((all.drop place).take 4)
    have h2 : ((all.drop place).take 4).length = 4 := by simp; omega
    rw [h2] at h1; exact h1
  have hp0lt := lt_of_cell hp0
  have HG := hide hr
  clear hg h hr
  generalize val ((all.drop place).take 4) = x at *
  have hw : IntKind.u32.wrap (x : Int) = (x : Int) := by rw [IntKind.wrap_u32]; omega
  have hnot : ∀ (x : Bool) (w : World), (Op.unary .not (.bool x)).run Tryd.prog w = .ok (.bool (!x)) w := fun _ _ => rfl
  go_enter Tryd.func85, Tryd.ntmps85
  go_wp2_with fail
  refine (unhide HT).mono ?_
  rintro e w1 ⟨rfl, hr, hf⟩
  have q0 := (hf.cell hp0lt n0).trans hp0
  have hrg := (unhide HG).fr hf (fun k e => by have h' : k = b := e; omega)
  unfold Rg at hrg
  have c0 := hr.c0
  have c4 := hr.c4
  have HR := hide (And.intro hr hf)
  clear hr hf HT HG hp0
  go_wp2_with fail
  go_region_dies
  all_goals
    go_wp2_with fail
    refine (isq_any x hlt _).mono ?_
    rintro e w2 ⟨rfl, rfl⟩
    rw [hq]
  all_goals
    rename_i hK
    refine hK _ _ ?_
    clear hK
    refine wpAny_take (i := 3) (v := ?_) rfl (by kernel_rfl) (by kernel_rfl) (by kernel_rfl) (fun _ _ _ h => h) (Or.inl ⟨by rfl, ?_⟩) ?_
    rotate_left
    · intro w
      go_simp
      try with_reducible rfl
  · refine wpAny_ready (rs := [4]) (by kernel_rfl) (by simp) ?_
    refine AllReady.cons rfl (fun K hK => ?_) AllReady.nil
    go_simp
    refine hK _ _ ?_
    clear hK K
    refine wpAny_ready (rs := [5]) (by kernel_rfl) (by simp) ?_
    refine AllReady.cons rfl (fun K hK => ?_) AllReady.nil
    go_simp
    go_wp2_with fail
    refine (rrefuse_yes b part nm er w1.drew (by simpa using c0) (by simpa using c4)).mono ?_
    rintro e w2 ⟨rfl, rfl⟩
    exact ⟨rfl, _, rfl, BadR.of (unhide HR).1 (unhide HR).2 (bad_of_drew w1 nm part er)⟩
  · refine wpAny_ready (rs := [5]) (by kernel_rfl) (by simp) ?_
    refine AllReady.cons rfl (fun K hK => ?_) AllReady.nil
    go_simp
    go_wp2_with fail
    refine (rrefuse_yes b part nm er w1.drew (by simpa using c0) (by simpa using c4)).mono ?_
    rintro e w2 ⟨rfl, rfl⟩
    exact ⟨rfl, _, rfl, BadR.of (unhide HR).1 (unhide HR).2 (bad_of_drew w1 nm part er)⟩
  · refine wpAny_ready (rs := [0, 4]) (by kernel_rfl) (by simp) ?_
    refine AllReady.cons rfl (fun K hK => ?_) (AllReady.cons rfl (fun K hK => ?_) AllReady.nil)
    · go_simp
      refine hK _ _ ?_
      clear hK K
      refine wpAny_ready (rs := [4]) (by kernel_rfl) (by simp) ?_
      refine AllReady.cons rfl (fun K hK => ?_) AllReady.nil
      go_simp
      refine hK _ _ ?_
      clear hK K
      refine wpAny_ready (rs := [5]) (by kernel_rfl) (by simp) ?_
      refine AllReady.cons rfl (fun K hK => ?_) AllReady.nil
      go_simp
      go_wp2_with fail
      refine (rrefuse_yes b part nm er w1.drew (by simpa using c0) (by simpa using c4)).mono ?_
      rintro e w2 ⟨rfl, rfl⟩
      exact ⟨rfl, _, rfl, BadR.of (unhide HR).1 (unhide HR).2 (bad_of_drew w1 nm part er)⟩
    · go_simp
      refine hK _ _ ?_
      clear hK K
      refine wpAny_ready (rs := [0]) (by kernel_rfl) (by simp) ?_
      refine AllReady.cons rfl (fun K hK => ?_) AllReady.nil
      go_simp
      refine hK _ _ ?_
      clear hK K
      refine wpAny_ready (rs := [5]) (by kernel_rfl) (by simp) ?_
      refine AllReady.cons rfl (fun K hK => ?_) AllReady.nil
      go_simp
      go_wp2_with fail
      refine (rrefuse_yes b part nm er w1.drew (by simpa using c0) (by simpa using c4)).mono ?_
      rintro e w2 ⟨rfl, rfl⟩
      exact ⟨rfl, _, rfl, BadR.of (unhide HR).1 (unhide HR).2 (bad_of_drew w1 nm part er)⟩
  · refine wpAny_ready (rs := [5]) (by kernel_rfl) (by simp) ?_
    refine AllReady.cons rfl (fun K hK => ?_) AllReady.nil
    go_simp
    go_wp2_with fail
    refine (rrefuse_yes b part nm er w1.drew (by simpa using c0) (by simpa using c4)).mono ?_
    rintro e w2 ⟨rfl, rfl⟩
    exact ⟨rfl, _, rfl, BadR.of (unhide HR).1 (unhide HR).2 (bad_of_drew w1 nm part er)⟩
  · refine wpAny_ready (rs := [0]) (by kernel_rfl) (by simp) ?_
    refine AllReady.cons rfl (fun K hK => ?_) AllReady.nil
    go_simp
    refine hK _ _ ?_
    clear hK K
    refine wpAny_ready (rs := [5]) (by kernel_rfl) (by simp) ?_
    refine AllReady.cons rfl (fun K hK => ?_) AllReady.nil
    go_simp
    go_wp2_with fail
    refine (rrefuse_yes b part nm er w1.drew (by simpa using c0) (by simpa using c4)).mono ?_
    rintro e w2 ⟨rfl, rfl⟩
    exact ⟨rfl, _, rfl, BadR.of (unhide HR).1 (unhide HR).2 (bad_of_drew w1 nm part er)⟩
end Go.Proofs.YtikolmpgnpkdbaaDoor

namespace Go.Proofs.YtikolmpgnpkdbaaDoor
open Go.RowKit

set_option maxRecDepth 100000 in
set_option maxHeartbeats 1000000 in
theorem rBytes_clos (b place part x : Nat) (most : Int) (p0 p1 : Addr) (nm : ByteArray) (sv : Value) (all : List Nat) (E : Nat → Addr) (w : World) (hb : 9 ≤ b) (hm : most < 9223372036854775808) (hg : Gl w E) (h : Rc w b nm sv all place part)
    (hp0 : w.cell? p0 = some (.pointer (some ⟨b, 0, none⟩))) (hp1 : w.cell? p1 = some (.int .i64 most)) (n0 : p0.block ≠ b) (hx : val ((all.drop place).take 4) = x) (hn : 4 + place ≤ all.length) (hv : (x : Int) ≤ most) (hxl : all.length < x + (place + 4)) :
    Calls Tryd.prog 60 #[.pointer (some p0), .pointer (some p1)] w fun e w' => ∃ fa, e = .panicked [thrown fa] ∧ BadR w w' b fa nm part (E 1) := by
  have HC := hide (rcount_ok b place part most nm sv all E w.drew hb hm hg.drew h.drew hn (by rw [hx]; exact hv))
  rw [hx] at HC
  have hp0lt := lt_of_cell hp0
  have HG := hide hg
  clear hg h hx
  go_enter Tryd.func60, Tryd.ntmps60
  go_wp2_with fail
  have hxb : x < 9223372036854775808 := by omega
  go_region_dies
  all_goals
    go_wp2_with fail
    refine (unhide HC).mono ?_
    rintro e w1 ⟨rfl, hr, hf⟩
    have q0 : w1.cell? p0 = some (.pointer (some ⟨b, 0, none⟩)) := (hf.cell hp0lt n0).trans hp0
    have HR := hide (And.intro hr hf)
    clear hr hf
  all_goals
    rename_i hK
    refine hK _ _ ?_
    clear hK
  · refine wpAny_ready (rs := [4]) (by kernel_rfl) (by simp) ?_
    refine AllReady.cons rfl (fun K hK => ?_) AllReady.nil
    go_simp
    go_wp2_with fail
    refine (take_bad b x (place + 4) part nm sv all E w1 ((unhide HG).drew.frb (unhide HR).2 hb) (unhide HR).1 hxl hxb).mono ?_
    rintro e w2 ⟨fa, rfl, hB⟩
    exact ⟨rfl, fa, rfl, BadR.of (unhide HR).1 ((frd b w).trans (unhide HR).2 (fun _ _ h => h)) hB⟩
  · refine wpAny_ready (rs := [4]) (by kernel_rfl) (by simp) ?_
    refine AllReady.cons rfl (fun K hK => ?_) AllReady.nil
    go_simp
    go_wp2_with fail
    refine (take_bad b x (place + 4) part nm sv all E w1 ((unhide HG).drew.frb (unhide HR).2 hb) (unhide HR).1 hxl hxb).mono ?_
    rintro e w2 ⟨fa, rfl, hB⟩
    exact ⟨rfl, fa, rfl, BadR.of (unhide HR).1 ((frd b w).trans (unhide HR).2 (fun _ _ h => h)) hB⟩
  · refine wpAny_ready (rs := [4]) (by kernel_rfl) (by simp) ?_
    refine AllReady.cons rfl (fun K hK => ?_) AllReady.nil
    go_simp
    go_wp2_with fail
    refine (take_bad b x (place + 4) part nm sv all E w1 ((unhide HG).drew.frb (unhide HR).2 hb) (unhide HR).1 hxl hxb).mono ?_
    rintro e w2 ⟨fa, rfl, hB⟩
    exact ⟨rfl, fa, rfl, BadR.of (unhide HR).1 ((frd b w).trans (unhide HR).2 (fun _ _ h => h)) hB⟩
  · refine wpAny_ready (rs := [4]) (by kernel_rfl) (by simp) ?_
    refine AllReady.cons rfl (fun K hK => ?_) AllReady.nil
    go_simp
    go_wp2_with fail
    refine (take_bad b x (place + 4) part nm sv all E w1 ((unhide HG).drew.frb (unhide HR).2 hb) (unhide HR).1 hxl hxb).mono ?_
    rintro e w2 ⟨fa, rfl, hB⟩
    exact ⟨rfl, fa, rfl, BadR.of (unhide HR).1 ((frd b w).trans (unhide HR).2 (fun _ _ h => h)) hB⟩
  · refine wpAny_ready (rs := [0]) (by kernel_rfl) (by simp) ?_
    refine AllReady.cons rfl (fun K hK => ?_) AllReady.nil
    go_simp
    refine hK _ _ ?_
    clear hK K
    refine wpAny_ready (rs := [4]) (by kernel_rfl) (by simp) ?_
    refine AllReady.cons rfl (fun K hK => ?_) AllReady.nil
    go_simp
    go_wp2_with fail
    refine (take_bad b x (place + 4) part nm sv all E w1 ((unhide HG).drew.frb (unhide HR).2 hb) (unhide HR).1 hxl hxb).mono ?_
    rintro e w2 ⟨fa, rfl, hB⟩
    exact ⟨rfl, fa, rfl, BadR.of (unhide HR).1 ((frd b w).trans (unhide HR).2 (fun _ _ h => h)) hB⟩
  · refine wpAny_ready (rs := [4]) (by kernel_rfl) (by simp) ?_
    refine AllReady.cons rfl (fun K hK => ?_) AllReady.nil
    go_simp
    go_wp2_with fail
    refine (take_bad b x (place + 4) part nm sv all E w1 ((unhide HG).drew.frb (unhide HR).2 hb) (unhide HR).1 hxl hxb).mono ?_
    rintro e w2 ⟨fa, rfl, hB⟩
    exact ⟨rfl, fa, rfl, BadR.of (unhide HR).1 ((frd b w).trans (unhide HR).2 (fun _ _ h => h)) hB⟩
  · refine wpAny_ready (rs := [4]) (by kernel_rfl) (by simp) ?_
    refine AllReady.cons rfl (fun K hK => ?_) AllReady.nil
    go_simp
    go_wp2_with fail
    refine (take_bad b x (place + 4) part nm sv all E w1 ((unhide HG).drew.frb (unhide HR).2 hb) (unhide HR).1 hxl hxb).mono ?_
    rintro e w2 ⟨fa, rfl, hB⟩
    exact ⟨rfl, fa, rfl, BadR.of (unhide HR).1 ((frd b w).trans (unhide HR).2 (fun _ _ h => h)) hB⟩
  · refine wpAny_ready (rs := [0]) (by kernel_rfl) (by simp) ?_
    refine AllReady.cons rfl (fun K hK => ?_) AllReady.nil
    go_simp
    refine hK _ _ ?_
    clear hK K
    refine wpAny_ready (rs := [4]) (by kernel_rfl) (by simp) ?_
    refine AllReady.cons rfl (fun K hK => ?_) AllReady.nil
    go_simp
    go_wp2_with fail
    refine (take_bad b x (place + 4) part nm sv all E w1 ((unhide HG).drew.frb (unhide HR).2 hb) (unhide HR).1 hxl hxb).mono ?_
    rintro e w2 ⟨fa, rfl, hB⟩
    exact ⟨rfl, fa, rfl, BadR.of (unhide HR).1 ((frd b w).trans (unhide HR).2 (fun _ _ h => h)) hB⟩
set_option maxRecDepth 100000 in
set_option maxHeartbeats 1000000 in
theorem rText_clos (b place part x : Nat) (most : Int) (p0 p1 : Addr) (nm : ByteArray) (sv : Value) (all : List Nat) (E : Nat → Addr) (w : World) (hb : 9 ≤ b) (hm : most < 9223372036854775808) (hg : Gl w E) (h : Rc w b nm sv all place part)
    (hp0 : w.cell? p0 = some (.pointer (some ⟨b, 0, none⟩))) (hp1 : w.cell? p1 = some (.int .i64 most)) (n0 : p0.block ≠ b) (hx : val ((all.drop place).take 4) = x) (hn : 4 + place ≤ all.length) (hv : (x : Int) ≤ most) (hxl : all.length < x + (place + 4)) :
    Calls Tryd.prog 88 #[.pointer (some p0), .pointer (some p1)] w fun e w' => ∃ fa, e = .panicked [thrown fa] ∧ BadR w w' b fa nm part (E 1) := by
  have HC := hide (rcount_ok b place part most nm sv all E w.drew hb hm hg.drew h.drew hn (by rw [hx]; exact hv))
  rw [hx] at HC
  have hp0lt := lt_of_cell hp0
  have HG := hide hg
  clear hg h hx
  go_enter Tryd.func88, Tryd.ntmps88
  go_wp2_with fail
  have hxb : x < 9223372036854775808 := by omega
  go_region_dies
  all_goals
    go_wp2_with fail
    refine (unhide HC).mono ?_
    rintro e w1 ⟨rfl, hr, hf⟩
    have q0 : w1.cell? p0 = some (.pointer (some ⟨b, 0, none⟩)) := (hf.cell hp0lt n0).trans hp0
    have HR := hide (And.intro hr hf)
    clear hr hf
  all_goals
    rename_i hK
    refine hK _ _ ?_
    clear hK
  · refine wpAny_ready (rs := [4]) (by kernel_rfl) (by simp) ?_
    refine AllReady.cons rfl (fun K hK => ?_) AllReady.nil
    go_simp
    go_wp2_with fail
    refine (take_bad b x (place + 4) part nm sv all E w1 ((unhide HG).drew.frb (unhide HR).2 hb) (unhide HR).1 hxl hxb).mono ?_
    rintro e w2 ⟨fa, rfl, hB⟩
    exact ⟨rfl, fa, rfl, BadR.of (unhide HR).1 ((frd b w).trans (unhide HR).2 (fun _ _ h => h)) hB⟩
  · refine wpAny_ready (rs := [4]) (by kernel_rfl) (by simp) ?_
    refine AllReady.cons rfl (fun K hK => ?_) AllReady.nil
    go_simp
    go_wp2_with fail
    refine (take_bad b x (place + 4) part nm sv all E w1 ((unhide HG).drew.frb (unhide HR).2 hb) (unhide HR).1 hxl hxb).mono ?_
    rintro e w2 ⟨fa, rfl, hB⟩
    exact ⟨rfl, fa, rfl, BadR.of (unhide HR).1 ((frd b w).trans (unhide HR).2 (fun _ _ h => h)) hB⟩
  · refine wpAny_ready (rs := [4]) (by kernel_rfl) (by simp) ?_
    refine AllReady.cons rfl (fun K hK => ?_) AllReady.nil
    go_simp
    go_wp2_with fail
    refine (take_bad b x (place + 4) part nm sv all E w1 ((unhide HG).drew.frb (unhide HR).2 hb) (unhide HR).1 hxl hxb).mono ?_
    rintro e w2 ⟨fa, rfl, hB⟩
    exact ⟨rfl, fa, rfl, BadR.of (unhide HR).1 ((frd b w).trans (unhide HR).2 (fun _ _ h => h)) hB⟩
  · refine wpAny_ready (rs := [4]) (by kernel_rfl) (by simp) ?_
    refine AllReady.cons rfl (fun K hK => ?_) AllReady.nil
    go_simp
    go_wp2_with fail
    refine (take_bad b x (place + 4) part nm sv all E w1 ((unhide HG).drew.frb (unhide HR).2 hb) (unhide HR).1 hxl hxb).mono ?_
    rintro e w2 ⟨fa, rfl, hB⟩
    exact ⟨rfl, fa, rfl, BadR.of (unhide HR).1 ((frd b w).trans (unhide HR).2 (fun _ _ h => h)) hB⟩
  · refine wpAny_ready (rs := [0]) (by kernel_rfl) (by simp) ?_
    refine AllReady.cons rfl (fun K hK => ?_) AllReady.nil
    go_simp
    refine hK _ _ ?_
    clear hK K
    refine wpAny_ready (rs := [4]) (by kernel_rfl) (by simp) ?_
    refine AllReady.cons rfl (fun K hK => ?_) AllReady.nil
    go_simp
    go_wp2_with fail
    refine (take_bad b x (place + 4) part nm sv all E w1 ((unhide HG).drew.frb (unhide HR).2 hb) (unhide HR).1 hxl hxb).mono ?_
    rintro e w2 ⟨fa, rfl, hB⟩
    exact ⟨rfl, fa, rfl, BadR.of (unhide HR).1 ((frd b w).trans (unhide HR).2 (fun _ _ h => h)) hB⟩
  · refine wpAny_ready (rs := [4]) (by kernel_rfl) (by simp) ?_
    refine AllReady.cons rfl (fun K hK => ?_) AllReady.nil
    go_simp
    go_wp2_with fail
    refine (take_bad b x (place + 4) part nm sv all E w1 ((unhide HG).drew.frb (unhide HR).2 hb) (unhide HR).1 hxl hxb).mono ?_
    rintro e w2 ⟨fa, rfl, hB⟩
    exact ⟨rfl, fa, rfl, BadR.of (unhide HR).1 ((frd b w).trans (unhide HR).2 (fun _ _ h => h)) hB⟩
  · refine wpAny_ready (rs := [4]) (by kernel_rfl) (by simp) ?_
    refine AllReady.cons rfl (fun K hK => ?_) AllReady.nil
    go_simp
    go_wp2_with fail
    refine (take_bad b x (place + 4) part nm sv all E w1 ((unhide HG).drew.frb (unhide HR).2 hb) (unhide HR).1 hxl hxb).mono ?_
    rintro e w2 ⟨fa, rfl, hB⟩
    exact ⟨rfl, fa, rfl, BadR.of (unhide HR).1 ((frd b w).trans (unhide HR).2 (fun _ _ h => h)) hB⟩
  · refine wpAny_ready (rs := [0]) (by kernel_rfl) (by simp) ?_
    refine AllReady.cons rfl (fun K hK => ?_) AllReady.nil
    go_simp
    refine hK _ _ ?_
    clear hK K
    refine wpAny_ready (rs := [4]) (by kernel_rfl) (by simp) ?_
    refine AllReady.cons rfl (fun K hK => ?_) AllReady.nil
    go_simp
    go_wp2_with fail
    refine (take_bad b x (place + 4) part nm sv all E w1 ((unhide HG).drew.frb (unhide HR).2 hb) (unhide HR).1 hxl hxb).mono ?_
    rintro e w2 ⟨fa, rfl, hB⟩
    exact ⟨rfl, fa, rfl, BadR.of (unhide HR).1 ((frd b w).trans (unhide HR).2 (fun _ _ h => h)) hB⟩
end Go.Proofs.YtikolmpgnpkdbaaDoor

namespace Go.Proofs.YtikolmpgnpkdbaaDoor
open Go.RowKit

theorem rU8_bad (b : Nat) (F : Nat → Prop) (s : Rst) (E : Nat → Addr) (w : World) (hg : Gl w E) (h : R w b F s) (hn : s.f = none) (hl : s.all.length < 1 + s.place) :
    Calls Tryd.prog 21 #[.pointer (some ⟨b, 0, none⟩)] w fun e w' => e = .returned (.int .u8 0) ∧ ∃ F', R w' b F' { s with f := some (s.nm, s.place, E 1) } ∧ Ch w w' F F' := by
  have hlt := h.lt b h.fb
  have hlo := h.lo b h.fb
  have hmf := mf
  have H := hide (And.intro h (And.intro hn hg))
  clear h hn hg
  go_enter Tryd.func21, Tryd.ntmps21
  go_wp2_with fail
  refine (rp_uint8_bad b 52 _ F s (E 1) _ ((unhide H).1.frame (box1 w _) (fun _ _ h => h)) (unhide H).2.1 (enters Tryd.func52 (by kernel_rfl) (by kernel_rfl) _) (fun wk sv hf hr => rU8_clo_bad b s.place s.place ⟨w.heap.size, 0, none⟩ s.nm sv s.all E wk (((unhide H).2.2.fr0 (box1 w _)).frb hf hlo) hr ((hf.cell (by simp) (by show ¬ w.heap.size = b; omega)).trans (c10 _ _ _)) hl)).mono ?_
  rintro e w' ⟨rfl, F', hR, hc⟩
  have HR := hide (And.intro hR hc)
  clear hR hc
  go_wp2_with fail
  go_ret
  exact ⟨rfl, F', (unhide HR).1, (unhide HR).2.behind (box1 w _)⟩
theorem rU16_bad (b : Nat) (F : Nat → Prop) (s : Rst) (E : Nat → Addr) (w : World) (hg : Gl w E) (h : R w b F s) (hn : s.f = none) (hl : s.all.length < 2 + s.place) :
    Calls Tryd.prog 26 #[.pointer (some ⟨b, 0, none⟩)] w fun e w' => e = .returned (.int .u16 0) ∧ ∃ F', R w' b F' { s with f := some (s.nm, s.place, E 1) } ∧ Ch w w' F F' := by
  have hlt := h.lt b h.fb
  have hlo := h.lo b h.fb
  have hmf := mf
  have H := hide (And.intro h (And.intro hn hg))
  clear h hn hg
  go_enter Tryd.func26, Tryd.ntmps26
  go_wp2_with fail
  refine (rp_uint16_bad b 65 _ F s (E 1) _ ((unhide H).1.frame (box1 w _) (fun _ _ h => h)) (unhide H).2.1 (enters Tryd.func65 (by kernel_rfl) (by kernel_rfl) _) (fun wk sv hf hr => rU16_clo_bad b s.place s.place ⟨w.heap.size, 0, none⟩ s.nm sv s.all E wk (((unhide H).2.2.fr0 (box1 w _)).frb hf hlo) hr ((hf.cell (by simp) (by show ¬ w.heap.size = b; omega)).trans (c10 _ _ _)) hl)).mono ?_
  rintro e w' ⟨rfl, F', hR, hc⟩
  have HR := hide (And.intro hR hc)
  clear hR hc
  go_wp2_with fail
  go_ret
  exact ⟨rfl, F', (unhide HR).1, (unhide HR).2.behind (box1 w _)⟩
theorem rU32_bad (b : Nat) (F : Nat → Prop) (s : Rst) (E : Nat → Addr) (w : World) (hg : Gl w E) (h : R w b F s) (hn : s.f = none) (hl : s.all.length < 4 + s.place) :
    Calls Tryd.prog 42 #[.pointer (some ⟨b, 0, none⟩)] w fun e w' => e = .returned (.int .u32 0) ∧ ∃ F', R w' b F' { s with f := some (s.nm, s.place, E 1) } ∧ Ch w w' F F' := by
  have hlt := h.lt b h.fb
  have hlo := h.lo b h.fb
  have hmf := mf
  have H := hide (And.intro h (And.intro hn hg))
  clear h hn hg
  go_enter Tryd.func42, Tryd.ntmps42
  go_wp2_with fail
  refine (rp_uint32_bad b 81 _ F s (E 1) _ ((unhide H).1.frame (box1 w _) (fun _ _ h => h)) (unhide H).2.1 (enters Tryd.func81 (by kernel_rfl) (by kernel_rfl) _) (fun wk sv hf hr => rU32_clo_bad b s.place s.place ⟨w.heap.size, 0, none⟩ s.nm sv s.all E wk (((unhide H).2.2.fr0 (box1 w _)).frb hf hlo) hr ((hf.cell (by simp) (by show ¬ w.heap.size = b; omega)).trans (c10 _ _ _)) hl)).mono ?_
  rintro e w' ⟨rfl, F', hR, hc⟩
  have HR := hide (And.intro hR hc)
  clear hR hc
  go_wp2_with fail
  go_ret
  exact ⟨rfl, F', (unhide HR).1, (unhide HR).2.behind (box1 w _)⟩
theorem rU64_bad (b : Nat) (F : Nat → Prop) (s : Rst) (E : Nat → Addr) (w : World) (hg : Gl w E) (h : R w b F s) (hn : s.f = none) (hl : s.all.length < 8 + s.place) :
    Calls Tryd.prog 43 #[.pointer (some ⟨b, 0, none⟩)] w fun e w' => e = .returned (.int .u64 0) ∧ ∃ F', R w' b F' { s with f := some (s.nm, s.place, E 1) } ∧ Ch w w' F F' := by
  have hlt := h.lt b h.fb
  have hlo := h.lo b h.fb
  have hmf := mf
  have H := hide (And.intro h (And.intro hn hg))
  clear h hn hg
  go_enter Tryd.func43, Tryd.ntmps43
  go_wp2_with fail
  refine (rp_uint64_bad b 83 _ F s (E 1) _ ((unhide H).1.frame (box1 w _) (fun _ _ h => h)) (unhide H).2.1 (enters Tryd.func83 (by kernel_rfl) (by kernel_rfl) _) (fun wk sv hf hr => rU64_clo_bad b s.place s.place ⟨w.heap.size, 0, none⟩ s.nm sv s.all E wk (((unhide H).2.2.fr0 (box1 w _)).frb hf hlo) hr ((hf.cell (by simp) (by show ¬ w.heap.size = b; omega)).trans (c10 _ _ _)) hl)).mono ?_
  rintro e w' ⟨rfl, F', hR, hc⟩
  have HR := hide (And.intro hR hc)
  clear hR hc
  go_wp2_with fail
  go_ret
  exact ⟨rfl, F', (unhide HR).1, (unhide HR).2.behind (box1 w _)⟩
theorem rU8_given (b : Nat) (F : Nat → Prop) (s : Rst) (w : World) (h : R w b F s) (hn : s.f ≠ none) :
    Calls Tryd.prog 21 #[.pointer (some ⟨b, 0, none⟩)] w fun e w' => e = .returned (.int .u8 0) ∧ ∃ F', R w' b F' s ∧ Ch w w' F F' := by
  have hmf := mf
  have H := hide (And.intro h hn)
  clear h hn
  go_enter Tryd.func21, Tryd.ntmps21
  go_wp2_with fail
  refine (rp_uint8_given b 52 _ F s _ ((unhide H).1.frame (box1 w _) (fun _ _ h => h)) (unhide H).2).mono ?_
  rintro e w' ⟨rfl, F', hR, hc⟩
  have HR := hide (And.intro hR hc)
  clear hR hc
  go_wp2_with fail
  go_ret
  exact ⟨rfl, F', (unhide HR).1, (unhide HR).2.behind (box1 w _)⟩
theorem rU16_given (b : Nat) (F : Nat → Prop) (s : Rst) (w : World) (h : R w b F s) (hn : s.f ≠ none) :
    Calls Tryd.prog 26 #[.pointer (some ⟨b, 0, none⟩)] w fun e w' => e = .returned (.int .u16 0) ∧ ∃ F', R w' b F' s ∧ Ch w w' F F' := by
  have hmf := mf
  have H := hide (And.intro h hn)
  clear h hn
  go_enter Tryd.func26, Tryd.ntmps26
  go_wp2_with fail
  refine (rp_uint16_given b 65 _ F s _ ((unhide H).1.frame (box1 w _) (fun _ _ h => h)) (unhide H).2).mono ?_
  rintro e w' ⟨rfl, F', hR, hc⟩
  have HR := hide (And.intro hR hc)
  clear hR hc
  go_wp2_with fail
  go_ret
  exact ⟨rfl, F', (unhide HR).1, (unhide HR).2.behind (box1 w _)⟩
theorem rU32_given (b : Nat) (F : Nat → Prop) (s : Rst) (w : World) (h : R w b F s) (hn : s.f ≠ none) :
    Calls Tryd.prog 42 #[.pointer (some ⟨b, 0, none⟩)] w fun e w' => e = .returned (.int .u32 0) ∧ ∃ F', R w' b F' s ∧ Ch w w' F F' := by
  have hmf := mf
  have H := hide (And.intro h hn)
  clear h hn
  go_enter Tryd.func42, Tryd.ntmps42
  go_wp2_with fail
  refine (rp_uint32_given b 81 _ F s _ ((unhide H).1.frame (box1 w _) (fun _ _ h => h)) (unhide H).2).mono ?_
  rintro e w' ⟨rfl, F', hR, hc⟩
  have HR := hide (And.intro hR hc)
  clear hR hc
  go_wp2_with fail
  go_ret
  exact ⟨rfl, F', (unhide HR).1, (unhide HR).2.behind (box1 w _)⟩
theorem rU64_given (b : Nat) (F : Nat → Prop) (s : Rst) (w : World) (h : R w b F s) (hn : s.f ≠ none) :
    Calls Tryd.prog 43 #[.pointer (some ⟨b, 0, none⟩)] w fun e w' => e = .returned (.int .u64 0) ∧ ∃ F', R w' b F' s ∧ Ch w w' F F' := by
  have hmf := mf
  have H := hide (And.intro h hn)
  clear h hn
  go_enter Tryd.func43, Tryd.ntmps43
  go_wp2_with fail
  refine (rp_uint64_given b 83 _ F s _ ((unhide H).1.frame (box1 w _) (fun _ _ h => h)) (unhide H).2).mono ?_
  rintro e w' ⟨rfl, F', hR, hc⟩
  have HR := hide (And.intro hR hc)
  clear hR hc
  go_wp2_with fail
  go_ret
  exact ⟨rfl, F', (unhide HR).1, (unhide HR).2.behind (box1 w _)⟩
theorem rF32_given (b : Nat) (F : Nat → Prop) (s : Rst) (w : World) (h : R w b F s) (hn : s.f ≠ none) :
    Calls Tryd.prog 45 #[.pointer (some ⟨b, 0, none⟩)] w fun e w' => e = .returned (.float .f32 0) ∧ ∃ F', R w' b F' s ∧ Ch w w' F F' := by
  have hmf := mf
  have H := hide (And.intro h hn)
  clear h hn
  go_enter Tryd.func45, Tryd.ntmps45
  go_wp2_with fail
  refine (rp_float32_given b 85 _ F s _ ((unhide H).1.frame (box1 w _) (fun _ _ h => h)) (unhide H).2).mono ?_
  rintro e w' ⟨rfl, F', hR, hc⟩
  have HR := hide (And.intro hR hc)
  clear hR hc
  go_wp2_with fail
  go_ret
  exact ⟨rfl, F', (unhide HR).1, (unhide HR).2.behind (box1 w _)⟩
theorem rF32_short (b : Nat) (F : Nat → Prop) (s : Rst) (E : Nat → Addr) (w : World) (hg : Gl w E) (h : R w b F s) (hn : s.f = none) (hl : s.all.length < 4 + s.place) :
    Calls Tryd.prog 45 #[.pointer (some ⟨b, 0, none⟩)] w fun e w' => e = .returned (.float .f32 0) ∧ ∃ F', R w' b F' { s with f := some (s.nm, s.place, E 1) } ∧ Ch w w' F F' := by
  have hlt := h.lt b h.fb
  have hlo := h.lo b h.fb
  have hmf := mf
  have H := hide (And.intro h (And.intro hn hg))
  clear h hn hg
  go_enter Tryd.func45, Tryd.ntmps45
  go_wp2_with fail
  refine (rp_float32_bad b 85 _ F s (E 1) _ ((unhide H).1.frame (box1 w _) (fun _ _ h => h)) (unhide H).2.1 (enters Tryd.func85 (by kernel_rfl) (by kernel_rfl) _) (fun wk sv hf hr => rF32_clos b s.place s.place ⟨w.heap.size, 0, none⟩ s.nm sv s.all E wk (((unhide H).2.2.fr0 (box1 w _)).frb hf hlo) hr ((hf.cell (by simp) (by show ¬ w.heap.size = b; omega)).trans (c10 _ _ _)) hl)).mono ?_
  rintro e w' ⟨rfl, F', hR, hc⟩
  have HR := hide (And.intro hR hc)
  clear hR hc
  go_wp2_with fail
  go_ret
  exact ⟨rfl, F', (unhide HR).1, (unhide HR).2.behind (box1 w _)⟩
theorem rF32_bad (b : Nat) (F : Nat → Prop) (s : Rst) (E : Nat → Addr) (er : Addr) (w : World) (hg : Gl w E) (hr : Rg w er) (h : R w b F s) (hn : s.f = none) (hl : 4 + s.place ≤ s.all.length) (hq : quantB (val ((s.all.drop s.place).take 4)) = false) :
    Calls Tryd.prog 45 #[.pointer (some ⟨b, 0, none⟩)] w fun e w' => e = .returned (.float .f32 0) ∧ ∃ F', R w' b F' { s with f := some (s.nm, s.place, er) } ∧ Ch w w' F F' := by
  have hlt := h.lt b h.fb
  have hlo := h.lo b h.fb
  have hmf := mf
  have H := hide (And.intro h (And.intro hn (And.intro hg (And.intro hr hq))))
  clear h hn hg hr hq
  go_enter Tryd.func45, Tryd.ntmps45
  go_wp2_with fail
  refine (rp_float32_bad b 85 _ F s er _ ((unhide H).1.frame (box1 w _) (fun _ _ h => h)) (unhide H).2.1 (enters Tryd.func85 (by kernel_rfl) (by kernel_rfl) _) (fun wk sv hf hr => rF32_clob b s.place s.place ⟨w.heap.size, 0, none⟩ er s.nm sv s.all E wk hlo (((unhide H).2.2.1.fr0 (box1 w _)).frb hf hlo) (((unhide H).2.2.2.1.fr0 (box1 w _)).fr hf (fun k e => by have h' : k = b := e; omega)) hr (by show w.heap.size ≠ b; omega) ((hf.cell (by simp) (by show ¬ w.heap.size = b; omega)).trans (c10 _ _ _)) hl (unhide H).2.2.2.2)).mono ?_
  rintro e w' ⟨rfl, F', hR, hc⟩
  have HR := hide (And.intro hR hc)
  clear hR hc
  go_wp2_with fail
  go_ret
  exact ⟨rfl, F', (unhide HR).1, (unhide HR).2.behind (box1 w _)⟩

theorem rBytes_bad (b : Nat) (most : Int) (F : Nat → Prop) (s : Rst) (E : Nat → Addr) (ea : Addr) (w : World) (hc : CntBad s.all s.place most E ea) (hm : most < 9223372036854775808) (hg : Gl w E) (h : R w b F s) (hn : s.f = none) :
    Calls Tryd.prog 24 #[.pointer (some ⟨b, 0, none⟩), .int .i64 most] w fun e w' => e = .returned (.slice none 0 0) ∧ ∃ F', R w' b F' { s with f := some (s.nm, s.place, ea) } ∧ Ch w w' F F' := by
  have hlt := h.lt b h.fb
  have hlo := h.lo b h.fb
  have hmf := mf
  have H := hide (And.intro h (And.intro hn (And.intro hg hc)))
  clear h hn hg hc
  go_enter Tryd.func24, Tryd.ntmps24
  go_wp2_with fail
  refine (rp_bytes_bad b 60 _ F s ea _ ((unhide H).1.frame (box2 w _ _) (fun _ _ h => h)) (unhide H).2.1 (enters Tryd.func60 (by kernel_rfl) (by kernel_rfl) _) (fun wk sv hf hr => rBytes_clob b s.place s.place most ⟨w.heap.size, 0, none⟩ ⟨w.heap.size + 1, 0, none⟩ ea s.nm sv s.all E wk (unhide H).2.2.2 hlo hm (((unhide H).2.2.1.fr0 (box2 w _ _)).frb hf hlo) hr ((hf.cell (by simp <;> omega) (by show ¬ w.heap.size = b; omega)).trans (by simp)) ((hf.cell (by simp) (by show ¬ w.heap.size + 1 = b; omega)).trans (by simp)))).mono ?_
  rintro e w' ⟨rfl, F', hR, hc⟩
  have HR := hide (And.intro hR hc)
  clear hR hc
  go_wp2_with fail
  go_ret
  exact ⟨rfl, F', (unhide HR).1, (unhide HR).2.behind (box2 w _ _)⟩
theorem rBytes_given (b : Nat) (most : Int) (F : Nat → Prop) (s : Rst) (w : World) (h : R w b F s) (hn : s.f ≠ none) :
    Calls Tryd.prog 24 #[.pointer (some ⟨b, 0, none⟩), .int .i64 most] w fun e w' => e = .returned (.slice none 0 0) ∧ ∃ F', R w' b F' s ∧ Ch w w' F F' := by
  have hmf := mf
  have H := hide (And.intro h hn)
  clear h hn
  go_enter Tryd.func24, Tryd.ntmps24
  go_wp2_with fail
  refine (rp_bytes_given b 60 _ F s _ ((unhide H).1.frame (box2 w _ _) (fun _ _ h => h)) (unhide H).2).mono ?_
  rintro e w' ⟨rfl, F', hR, hc⟩
  have HR := hide (And.intro hR hc)
  clear hR hc
  go_wp2_with fail
  go_ret
  exact ⟨rfl, F', (unhide HR).1, (unhide HR).2.behind (box2 w _ _)⟩
theorem rText_bad (b : Nat) (most : Int) (F : Nat → Prop) (s : Rst) (E : Nat → Addr) (ea : Addr) (w : World) (hc : CntBad s.all s.place most E ea) (hm : most < 9223372036854775808) (hg : Gl w E) (h : R w b F s) (hn : s.f = none) :
    Calls Tryd.prog 46 #[.pointer (some ⟨b, 0, none⟩), .int .i64 most] w fun e w' => e = .returned (.string ⟨#[]⟩) ∧ ∃ F', R w' b F' { s with f := some (s.nm, s.place, ea) } ∧ Ch w w' F F' := by
  have hlt := h.lt b h.fb
  have hlo := h.lo b h.fb
  have hmf := mf
  have H := hide (And.intro h (And.intro hn (And.intro hg hc)))
  clear h hn hg hc
  go_enter Tryd.func46, Tryd.ntmps46
  go_wp2_with fail
  refine (rp_string_bad b 88 _ F s ea _ ((unhide H).1.frame (box2 w _ _) (fun _ _ h => h)) (unhide H).2.1 (enters Tryd.func88 (by kernel_rfl) (by kernel_rfl) _) (fun wk sv hf hr => rText_clob b s.place s.place most ⟨w.heap.size, 0, none⟩ ⟨w.heap.size + 1, 0, none⟩ ea s.nm sv s.all E wk (unhide H).2.2.2 hlo hm (((unhide H).2.2.1.fr0 (box2 w _ _)).frb hf hlo) hr ((hf.cell (by simp <;> omega) (by show ¬ w.heap.size = b; omega)).trans (by simp)) ((hf.cell (by simp) (by show ¬ w.heap.size + 1 = b; omega)).trans (by simp)))).mono ?_
  rintro e w' ⟨rfl, F', hR, hc⟩
  have HR := hide (And.intro hR hc)
  clear hR hc
  go_wp2_with fail
  go_ret
  exact ⟨rfl, F', (unhide HR).1, (unhide HR).2.behind (box2 w _ _)⟩
theorem rText_given (b : Nat) (most : Int) (F : Nat → Prop) (s : Rst) (w : World) (h : R w b F s) (hn : s.f ≠ none) :
    Calls Tryd.prog 46 #[.pointer (some ⟨b, 0, none⟩), .int .i64 most] w fun e w' => e = .returned (.string ⟨#[]⟩) ∧ ∃ F', R w' b F' s ∧ Ch w w' F F' := by
  have hmf := mf
  have H := hide (And.intro h hn)
  clear h hn
  go_enter Tryd.func46, Tryd.ntmps46
  go_wp2_with fail
  refine (rp_string_given b 88 _ F s _ ((unhide H).1.frame (box2 w _ _) (fun _ _ h => h)) (unhide H).2).mono ?_
  rintro e w' ⟨rfl, F', hR, hc⟩
  have HR := hide (And.intro hR hc)
  clear hR hc
  go_wp2_with fail
  go_ret
  exact ⟨rfl, F', (unhide HR).1, (unhide HR).2.behind (box2 w _ _)⟩
theorem rCount_bad (b : Nat) (most : Int) (F : Nat → Prop) (s : Rst) (E : Nat → Addr) (ea : Addr) (w : World) (hc : CntBad s.all s.place most E ea) (hm : most < 9223372036854775808) (hg : Gl w E) (h : R w b F s) (hn : s.f = none) :
    Calls Tryd.prog 47 #[.pointer (some ⟨b, 0, none⟩), .int .i64 most] w fun e w' => e = .returned (.int .i64 0) ∧ ∃ F', R w' b F' { s with f := some (s.nm, s.place, ea) } ∧ Ch w w' F F' := by
  have hlt := h.lt b h.fb
  have hlo := h.lo b h.fb
  have hmf := mf
  have H := hide (And.intro h (And.intro hn (And.intro hg hc)))
  clear h hn hg hc
  go_enter Tryd.func47, Tryd.ntmps47
  go_wp2_with fail
  refine (rp_int_bad b 90 _ F s ea _ ((unhide H).1.frame (box2 w _ _) (fun _ _ h => h)) (unhide H).2.1 (enters Tryd.func90 (by kernel_rfl) (by kernel_rfl) _) (fun wk sv hf hr => rCount_clob b s.place s.place most ⟨w.heap.size, 0, none⟩ ⟨w.heap.size + 1, 0, none⟩ ea s.nm sv s.all E wk (unhide H).2.2.2 hlo hm (((unhide H).2.2.1.fr0 (box2 w _ _)).frb hf hlo) hr ((hf.cell (by simp <;> omega) (by show ¬ w.heap.size = b; omega)).trans (by simp)) ((hf.cell (by simp) (by show ¬ w.heap.size + 1 = b; omega)).trans (by simp)))).mono ?_
  rintro e w' ⟨rfl, F', hR, hc⟩
  have HR := hide (And.intro hR hc)
  clear hR hc
  go_wp2_with fail
  go_ret
  exact ⟨rfl, F', (unhide HR).1, (unhide HR).2.behind (box2 w _ _)⟩
theorem rCount_given (b : Nat) (most : Int) (F : Nat → Prop) (s : Rst) (w : World) (h : R w b F s) (hn : s.f ≠ none) :
    Calls Tryd.prog 47 #[.pointer (some ⟨b, 0, none⟩), .int .i64 most] w fun e w' => e = .returned (.int .i64 0) ∧ ∃ F', R w' b F' s ∧ Ch w w' F F' := by
  have hmf := mf
  have H := hide (And.intro h hn)
  clear h hn
  go_enter Tryd.func47, Tryd.ntmps47
  go_wp2_with fail
  refine (rp_int_given b 90 _ F s _ ((unhide H).1.frame (box2 w _ _) (fun _ _ h => h)) (unhide H).2).mono ?_
  rintro e w' ⟨rfl, F', hR, hc⟩
  have HR := hide (And.intro hR hc)
  clear hR hc
  go_wp2_with fail
  go_ret
  exact ⟨rfl, F', (unhide HR).1, (unhide HR).2.behind (box2 w _ _)⟩
theorem rBytes_cut (b x : Nat) (most : Int) (F : Nat → Prop) (s : Rst) (E : Nat → Addr) (w : World) (hm : most < 9223372036854775808) (hg : Gl w E) (h : R w b F s) (hn : s.f = none) (hx : val ((s.all.drop s.place).take 4) = x) (hl : 4 + s.place ≤ s.all.length) (hv : (x : Int) ≤ most) (hxl : s.all.length < x + (s.place + 4)) :
    Calls Tryd.prog 24 #[.pointer (some ⟨b, 0, none⟩), .int .i64 most] w fun e w' => e = .returned (.slice none 0 0) ∧ ∃ F', R w' b F' { s with f := some (s.nm, s.place, E 1) } ∧ Ch w w' F F' := by
  have hlt := h.lt b h.fb
  have hlo := h.lo b h.fb
  have hmf := mf
  have H := hide (And.intro h (And.intro hn (And.intro hg hx)))
  clear h hn hg hx
  go_enter Tryd.func24, Tryd.ntmps24
  go_wp2_with fail
  refine (rp_bytes_bad b 60 _ F s (E 1) _ ((unhide H).1.frame (box2 w _ _) (fun _ _ h => h)) (unhide H).2.1 (enters Tryd.func60 (by kernel_rfl) (by kernel_rfl) _) (fun wk sv hf hr => rBytes_clos b s.place s.place x most ⟨w.heap.size, 0, none⟩ ⟨w.heap.size + 1, 0, none⟩ s.nm sv s.all E wk hlo hm (((unhide H).2.2.1.fr0 (box2 w _ _)).frb hf hlo) hr ((hf.cell (by simp <;> omega) (by show ¬ w.heap.size = b; omega)).trans (by simp)) ((hf.cell (by simp) (by show ¬ w.heap.size + 1 = b; omega)).trans (by simp)) (by show w.heap.size ≠ b; omega) (unhide H).2.2.2 hl hv hxl)).mono ?_
  rintro e w' ⟨rfl, F', hR, hc⟩
  have HR := hide (And.intro hR hc)
  clear hR hc
  go_wp2_with fail
  go_ret
  exact ⟨rfl, F', (unhide HR).1, (unhide HR).2.behind (box2 w _ _)⟩
theorem rText_cut (b x : Nat) (most : Int) (F : Nat → Prop) (s : Rst) (E : Nat → Addr) (w : World) (hm : most < 9223372036854775808) (hg : Gl w E) (h : R w b F s) (hn : s.f = none) (hx : val ((s.all.drop s.place).take 4) = x) (hl : 4 + s.place ≤ s.all.length) (hv : (x : Int) ≤ most) (hxl : s.all.length < x + (s.place + 4)) :
    Calls Tryd.prog 46 #[.pointer (some ⟨b, 0, none⟩), .int .i64 most] w fun e w' => e = .returned (.string ⟨#[]⟩) ∧ ∃ F', R w' b F' { s with f := some (s.nm, s.place, E 1) } ∧ Ch w w' F F' := by
  have hlt := h.lt b h.fb
  have hlo := h.lo b h.fb
  have hmf := mf
  have H := hide (And.intro h (And.intro hn (And.intro hg hx)))
  clear h hn hg hx
  go_enter Tryd.func46, Tryd.ntmps46
  go_wp2_with fail
  refine (rp_string_bad b 88 _ F s (E 1) _ ((unhide H).1.frame (box2 w _ _) (fun _ _ h => h)) (unhide H).2.1 (enters Tryd.func88 (by kernel_rfl) (by kernel_rfl) _) (fun wk sv hf hr => rText_clos b s.place s.place x most ⟨w.heap.size, 0, none⟩ ⟨w.heap.size + 1, 0, none⟩ s.nm sv s.all E wk hlo hm (((unhide H).2.2.1.fr0 (box2 w _ _)).frb hf hlo) hr ((hf.cell (by simp <;> omega) (by show ¬ w.heap.size = b; omega)).trans (by simp)) ((hf.cell (by simp) (by show ¬ w.heap.size + 1 = b; omega)).trans (by simp)) (by show w.heap.size ≠ b; omega) (unhide H).2.2.2 hl hv hxl)).mono ?_
  rintro e w' ⟨rfl, F', hR, hc⟩
  have HR := hide (And.intro hR hc)
  clear hR hc
  go_wp2_with fail
  go_ret
  exact ⟨rfl, F', (unhide HR).1, (unhide HR).2.behind (box2 w _ _)⟩
end Go.Proofs.YtikolmpgnpkdbaaDoor

