import Derived.Test.YtjokmlnghpnlbaaDoorPk2
import Derived.Deep.RegionHeldLaw
import Derived.Test.YtjokmlnghpnlbaaDoorPk1
namespace Go.Proofs.YtjokmlnghpnlbaaDoor
open Go.RowKit

theorem sl_lit (w : World) (l : List Nat) (cs : Array Value) (t : TypeId) (fz : Nat × Nat) (n : Nat) (hn : n = l.length) (h : cs = (cellsOf l).toArray) (hb : ∀ v ∈ l, v < 256) : Sl (w.alloc (.cells cs t fz)) (.slice (some ⟨w.heap.size, 0, none⟩) n n) l :=
  ⟨src_new w l cs t fz n n hn h, cap_lit, .inr lt_lit, hb⟩
theorem Fr.freeze {S : Nat → Prop} {a w : World} (h : Fr S a w) {p : Addr} (hp : S p.block ∨ a.heap.size ≤ p.block) (n : Nat) : Fr S a (w.freeze p n) := by
  unfold World.freeze
  split
  · exact h
  · refine ⟨h.os, h.tape, h.output, by simpa using h.size, fun k hk hs => ?_⟩
    rw [← h.block k hk hs]
    simp only [Array.getElem?_modify]
    rw [if_neg (fun e => ?_)]
    rcases hp with hp | hp
    · exact hs (e ▸ hp)
    · omega
theorem cell_freeze (w : World) (p : Addr) (n : Nat) (a : Addr) : (w.freeze p n).cell? a = w.cell? a := by
  unfold World.freeze
  split
  · rfl
  · by_cases e : p.block = a.block
    · unfold World.cell?
      simp only [Array.getElem?_modify, if_pos e]
      rcases hq : w.heap[a.block]? with _ | o
      · rfl
      · rcases o with ⟨c, el, lo, hi⟩ | _ <;> rfl
    · unfold World.cell?
      simp only [Array.getElem?_modify, if_neg e]
theorem size_freeze (w : World) (p : Addr) (n : Nat) : (w.freeze p n).heap.size = w.heap.size := by
  unfold World.freeze
  split
  · rfl
  · simp
theorem Sl.freeze {w : World} {x : Value} {l : List Nat} (h : Sl w x l) (p : Addr) (n : Nat) : Sl (w.freeze p n) x l := by
  refine ⟨?_, h.cap, by rw [size_freeze]; exact h.lt, h.b⟩
  rcases h.s with h0 | ⟨g, o, c, e, hc⟩ | h0
  · exact .inl h0
  · exact .inr (.inl ⟨g, o, c, e, fun j v hv => by rw [cell_freeze]; exact hc j v hv⟩)
  · exact .inr (.inr h0)
theorem conv_frz (W : World) (b n c k : Nat) (hsh : W.shape? b = some (5, k)) : (convert 24 24 (.slice (some ⟨b, 0, none⟩) n c)).run Tryd.prog W = .ok (.slice (some ⟨b, 0, none⟩) n c) (W.freeze ⟨b, k, none⟩ 1) := by
  simp [convert, run_underlying Tryd.underlying24, run_underlying Tryd.underlying5, markStringish, hsh]
theorem shape_new {W wP : World} {C : Array Value} {t : TypeId} {fz : Nat × Nat} (hf : Fr (fun _ => False) (W.alloc (.cells C t fz)) wP) : wP.shape? W.heap.size = some (t, C.size) := by
  unfold World.shape?
  rw [hf.block W.heap.size (by simp) (fun h => h)]
  have : (W.alloc (.cells C t fz)).heap[W.heap.size]? = some (.cells C t fz) := by
    show (W.heap.push (.cells C t fz))[W.heap.size]? = _
    simp
  rw [this]
/-- What lives asks for. -/
structure Lv5 : Prop where
  new : ∀ w' x, GS w' → GT w' → Sl w' x [1, 2, 3] → Calls Tryd.prog 11 #[.int .i64 2, .int .i64 1, x] w' fun e w'' => ∃ kb base tb yo yc, e = .returned (.tuple #[.pointer (some ⟨kb, 0, none⟩), .int .i64 0]) ∧ KyAt w'' kb base tb 2 1 (.slice yo 3 yc) [1, 2, 3] (lvs 2 [1, 2, 3] 2) ∧ Fr (fun _ => False) w' w''
  sign : ∀ w' kb base tb yo yc x, KyAt w' kb base tb 2 1 (.slice yo 3 yc) [1, 2, 3] (lvs 2 [1, 2, 3] 2) → Sl w' x [97, 98, 99] → Calls Tryd.prog 14 #[.pointer (some ⟨kb, 0, none⟩), .int .i64 1, x] w' fun e w'' => ∃ zo zc, e = .returned (.tuple #[.slice zo 66 zc, .int .i64 0]) ∧ OB w' w'' zo zc (sig 2 1 1 [1, 2, 3] (sm 2 [97, 98, 99]))
  pub : ∀ w' kb base tb yo yc, KyAt w' kb base tb 2 1 (.slice yo 3 yc) [1, 2, 3] (lvs 2 [1, 2, 3] 2) → Calls Tryd.prog 15 #[.pointer (some ⟨kb, 0, none⟩)] w' fun e w'' => ∃ yo yc, e = .returned (.slice yo 2 yc) ∧ OB w' w'' yo yc (mth 2 (lvs 2 [1, 2, 3] 2))
  size : ∀ w', Calls Tryd.prog 9 #[.int .i64 2, .int .i64 3] w' fun e w'' => e = .returned (.int .i64 70) ∧ w'' = w'
  chk : ∀ w' pv mv sv, GS w' → Sl w' pv (mth 2 (lvs 2 [1, 2, 3] 2)) → Sl w' mv [97, 98, 99] → Sl w' sv (sig 2 1 1 [1, 2, 3] (sm 2 [97, 98, 99])) → Calls Tryd.prog 16 #[.int .i64 2, .int .i64 1, pv, .int .i64 1, mv, sv] w' fun e w'' => e = .returned (.bool true) ∧ Fr (fun _ => False) w' w''
  chn : ∀ w' pv mv sv s, GS w' → Sl w' pv (mth 2 (lvs 2 [1, 2, 3] 2)) → Sl w' mv [97, 98, 99] → Sl w' sv s → s.length = 65 → Calls Tryd.prog 16 #[.int .i64 2, .int .i64 1, pv, .int .i64 1, mv, sv] w' fun e w'' => e = .returned (.bool false) ∧ Fr (fun _ => False) w' w''
  slen : (sig 2 1 1 [1, 2, 3] (sm 2 [97, 98, 99])).length = 66
  sbyt : ∀ v ∈ sig 2 1 1 [1, 2, 3] (sm 2 [97, 98, 99]), v < 256
  plen : (mth 2 (lvs 2 [1, 2, 3] 2)).length = 2
  pbyt : ∀ v ∈ mth 2 (lvs 2 [1, 2, 3] 2), v < 256
theorem lv5 : Lv5 := by
  refine ⟨fun w' x hg ht hx => ?_, fun w' kb base tb yo yc x h hx => ?_, fun w' kb base tb yo yc h => ?_, fun w' => ?_, fun w' pv mv sv hg hp hm hs => ?_, fun w' pv mv sv s hg hp hm hs hl => ?_, ?_, ?_, ?_, ?_⟩
  · exact lnew_in 2 1 (by decide) (by decide) (by decide) x [1, 2, 3] w' hg ht hx (by decide)
  · exact lsign_sig 2 1 kb base tb 1 (by decide) (by decide) (by decide) (by decide) yo 3 yc [1, 2, 3] w' h (by decide) x [97, 98, 99] hx (by decide)
  · exact lpublic_any 2 1 kb base tb (by decide) (by decide) (by decide) _ [1, 2, 3] _ w' h (lvs_len 2 _ _)
  · have := lsize_any 2 3 w'
    have e : szF 2 3 = 70 := by decide
    rw [e] at this
    exact this
  · have := lcheck_any 2 1 1 pv mv sv _ _ _ w' hg hp hm hs (by decide)
    have e : chkL 2 1 (mth 2 (lvs 2 [1, 2, 3] 2)) 1 [97, 98, 99] (sig 2 1 1 [1, 2, 3] (sm 2 [97, 98, 99])) = true := chkL_sig 2 1 1 (by decide) (by decide) (by decide) (by decide) [1, 2, 3] [97, 98, 99]
    rw [e] at this
    exact this
  · have := lcheck_any 2 1 1 pv mv sv _ _ _ w' hg hp hm hs (by decide)
    have e : chkL 2 1 (mth 2 (lvs 2 [1, 2, 3] 2)) 1 [97, 98, 99] s = false := chkL_len 2 1 1 (by decide) (by decide) (by decide) _ _ s (by omega)
    rw [e] at this
    exact this
  · exact sig_len 2 1 1 (by decide) (by decide) (by decide) _ _
  · exact sig_lt _ _ _ _ _
  · exact pub_len 2 1 (by decide) (by decide) _
  · exact pub_lt 2 1 _
theorem OB.sl2 {w wr : World} {xo : Option Addr} {cp n : Nat} {l : List Nat} (h : OB w wr xo cp l) (hb : ∀ v ∈ l, v < 256) (hn : l.length = n) : Sl wr (.slice xo n cp) l := hn ▸ h.sl hb
theorem chk_at (HC : Lv5) {w2 W : World} {pv mv sv : Value} (h : Fr (fun _ => False) w2 W ∧ Sl W pv (mth 2 (lvs 2 [1, 2, 3] 2)) ∧ Sl W mv [97, 98, 99]) (hs : Sl w2 sv (sig 2 1 1 [1, 2, 3] (sm 2 [97, 98, 99]))) (hg : GS w2) :
    Calls Tryd.prog 16 #[.int .i64 2, .int .i64 1, pv, .int .i64 1, mv, sv] W fun e w'' => e = .returned (.bool true) ∧ Fr (fun _ => False) w2 w'' := by
  refine (HC.chk W pv mv sv (hg.fr0 h.1) h.2.1 h.2.2 (hs.fr0 h.1)).mono ?_
  rintro e w'' ⟨rfl, hf⟩
  exact ⟨rfl, h.1.trans hf (fun _ _ h => h)⟩
theorem chn_at (HC : Lv5) {w2 W : World} {pv mv sv : Value} {s : List Nat} (h : Fr (fun _ => False) w2 W ∧ Sl W pv (mth 2 (lvs 2 [1, 2, 3] 2)) ∧ Sl W mv [97, 98, 99]) (hs : Sl w2 sv s) (hl : s.length = 65) (hg : GS w2) :
    Calls Tryd.prog 16 #[.int .i64 2, .int .i64 1, pv, .int .i64 1, mv, sv] W fun e w'' => e = .returned (.bool false) ∧ Fr (fun _ => False) w2 w'' := by
  refine (HC.chn W pv mv sv s (hg.fr0 h.1) h.2.1 h.2.2 (hs.fr0 h.1) hl).mono ?_
  rintro e w'' ⟨rfl, hf⟩
  exact ⟨rfl, h.1.trans hf (fun _ _ h => h)⟩
set_option maxRecDepth 100000 in
set_option maxHeartbeats 4000000 in
/-- lives. -/
theorem lives5_any (w : World) (hg : GS w) (ht : GT w) : Calls Tryd.prog 8 #[] w fun e w' => e = .returned (.bool true) ∧ Fr (fun _ => False) w w' := by
  have hcv := fun (w : World) (C : Array Value) (n c : Nat) => Lib.run_convert_bytes_const (P := Tryd.prog) w 24 5 C n c Tryd.underlying24 Tryd.underlying5
  have hcd : ∀ (w : World) (C : Array Value) (n c : Nat), (convert 24 24 (.slice (some ⟨w.heap.size, 0, none⟩) n c)).run Tryd.prog (w.alloc (.cells C 5)).drew = .ok (.slice (some ⟨w.heap.size, 0, none⟩) n c) (w.alloc (.cells C 5 (C.size, C.size + 1))).drew := fun w C n c => hcv w.drew C n c
  have HC := hide lv5
  have hsl := lv5.slen
  have hsb := lv5.sbyt
  have hpl := lv5.plen
  have hpb := lv5.pbyt
  have HG := hide (And.intro hg ht)
  clear hg ht
  go_enter Tryd.func8, Tryd.ntmps8
  go_wp2_with fail
  refine ((unhide HC).new _ _ ((unhide HG).1.fr0 ((Fr.refl _ _).alloc _)) ((unhide HG).2.fr0 ((Fr.refl _ _).alloc _)) (sl_lit w [1, 2, 3] _ _ _ _ rfl rfl (by decide))).mono ?_
  rintro e w1 ⟨kb, base, tb, yo, yc, rfl, hK, hF1⟩
  have H1 := hide (And.intro hK (((Fr.refl _ w).alloc _).trans hF1 (fun _ _ h => h)))
  clear hK hF1
  go_wp2_with fail
  refine ((unhide HC).sign _ _ _ _ _ _ _ ((unhide H1).1.fr0 ((Fr.refl _ _).alloc _)) (sl_lit w1 [97, 98, 99] _ _ _ _ rfl rfl (by decide))).mono ?_
  rintro e w2 ⟨zo, zc, rfl, hO2⟩
  have hFa := ((Fr.refl _ w1).alloc _).trans hO2.fr (fun _ _ h => h)
  have H2 := hide (And.intro ((unhide H1).1.fr0 hFa) (And.intro hO2 ((unhide H1).2.trans hFa (fun _ _ h => h))))
  clear hO2 hFa
  obtain ⟨zg, rfl, _, _, hzc, _⟩ := (unhide H2).2.1.at_ (by rw [hsl]; decide)
  rw [hsl] at hzc
  have hzs := (unhide H2).2.1.sl hsb
  rw [hsl] at hzs
  have hzs1 := hzs.sub 1 65 (by rw [hsl]; decide)
  have hl65 : (((sig 2 1 1 [1, 2, 3] (sm 2 [97, 98, 99])).drop 1).take 65).length = 65 := by rw [List.length_take, List.length_drop, hsl]; decide
  generalize ((sig 2 1 1 [1, 2, 3] (sm 2 [97, 98, 99])).drop 1).take 65 = S1 at *
  have H3 := hide (And.intro (unhide H2).1 (And.intro hzs (And.intro hzs1 (And.intro (unhide H2).2.2 (And.intro ((unhide HG).1.fr0 (unhide H2).2.2) (And.intro hl65 (And.intro hpl hpb)))))))
  clear hzs hzs1 hl65 H2 hsl hsb hpl hpb H1 HG
  have hz1 : (1 : Int) ≤ (zc : Int) := by omega
  have hz2 : ¬ zc = 1 := by omega
  go_wp2_with fail
  go_region_held_law (fun _ => True)
    (first | trivial)
    (first
      | (go_at_call 9; refine ((unhide HC).size _).mono ?_; rintro e wX ⟨rfl, rfl⟩)
      | (go_at_call 15; refine ((unhide HC).pub _ _ _ _ _ _ ((unhide H3).1.fr0 (by first | exact (Fr.refl _ _).drew | exact (Fr.refl _ _).drew.alloc _))).mono ?_; rintro e wP ⟨po, pc, rfl, hP⟩; try have hcx := conv_frz wP w2.heap.size 3 3 3 (shape_new (W := w2.drew) hP.fr))
      | (go_at_call 16; refine (chk_at (unhide HC) (by first | exact ⟨((Fr.refl _ _).drew.trans hP.fr (fun _ _ h => h)).alloc _, (hP.sl2 (unhide H3).2.2.2.2.2.2.2 (unhide H3).2.2.2.2.2.2.1).fr0 ((Fr.refl _ _).alloc _), sl_lit wP [97, 98, 99] _ _ _ _ rfl rfl (by decide)⟩ | exact ⟨(((Fr.refl _ _).drew.alloc _).trans hP.fr (fun _ _ h => h)).freeze (.inr (Nat.le_refl _)) _, (hP.sl2 (unhide H3).2.2.2.2.2.2.2 (unhide H3).2.2.2.2.2.2.1).freeze _ _, ((sl_lit w2.drew [97, 98, 99] _ _ _ _ rfl rfl (by decide)).fr0 hP.fr).freeze _ _⟩ | exact ⟨((Fr.refl _ _).drew.alloc _).trans hP.fr (fun _ _ h => h), hP.sl2 (unhide H3).2.2.2.2.2.2.2 (unhide H3).2.2.2.2.2.2.1, (sl_lit w2.drew [97, 98, 99] _ _ _ _ rfl rfl (by decide)).fr0 hP.fr⟩) (unhide H3).2.1 (unhide H3).2.2.2.2.1).mono ?_; rintro e wC ⟨rfl, hC⟩; have H4 := hide (And.intro ((unhide H3).1.fr0 hC) (And.intro ((unhide H3).2.1.fr0 hC) (And.intro ((unhide H3).2.2.1.fr0 hC) (And.intro ((unhide H3).2.2.2.1.trans hC (fun _ _ h => h)) (And.intro ((unhide H3).2.2.2.2.1.fr0 hC) (And.intro (unhide H3).2.2.2.2.2.1 (unhide H3).2.2.2.2.2.2)))))); clear hC hP H3; try clear hcx)
      | (go_at_call 15; refine ((unhide HC).pub _ _ _ _ _ _ ((unhide H4).1.fr0 (by first | exact (Fr.refl _ _) | exact (Fr.refl _ _).alloc _))).mono ?_; rintro e wP ⟨po, pc, rfl, hP⟩; try have hcx := conv_frz wP wC.heap.size 3 3 3 (shape_new (W := wC) hP.fr))
      | (go_at_call 16; refine (chn_at (unhide HC) (by first | exact ⟨((Fr.refl _ _).trans hP.fr (fun _ _ h => h)).alloc _, (hP.sl2 (unhide H4).2.2.2.2.2.2.2 (unhide H4).2.2.2.2.2.2.1).fr0 ((Fr.refl _ _).alloc _), sl_lit wP [97, 98, 99] _ _ _ _ rfl rfl (by decide)⟩ | exact ⟨(((Fr.refl _ _).alloc _).trans hP.fr (fun _ _ h => h)).freeze (.inr (Nat.le_refl _)) _, (hP.sl2 (unhide H4).2.2.2.2.2.2.2 (unhide H4).2.2.2.2.2.2.1).freeze _ _, ((sl_lit wC [97, 98, 99] _ _ _ _ rfl rfl (by decide)).fr0 hP.fr).freeze _ _⟩ | exact ⟨((Fr.refl _ _).alloc _).trans hP.fr (fun _ _ h => h), hP.sl2 (unhide H4).2.2.2.2.2.2.2 (unhide H4).2.2.2.2.2.2.1, (sl_lit wC [97, 98, 99] _ _ _ _ rfl rfl (by decide)).fr0 hP.fr⟩) (unhide H4).2.2.1 (unhide H4).2.2.2.2.2.1 (unhide H4).2.2.2.2.1).mono ?_; rintro e wD ⟨rfl, hD⟩; have H5 := hide ((unhide H4).2.2.2.1.trans hD (fun _ _ h => h)); clear hD hP; try clear hcx))
  all_goals go_wp2_with fail
  all_goals go_ret
  all_goals exact ⟨rfl, unhide H5⟩
end Go.Proofs.YtjokmlnghpnlbaaDoor

namespace Go.Proofs.YtjokmlnghpnlbaaDoor
open Go.RowKit

/-- Keys of a seed, in memory. -/
def Ky5 (wi H : Nat) (seed : List Nat) (w : World) (kb : Nat) : Prop := ∃ base tb yo yc, KyAt w kb base tb wi H (.slice yo seed.length yc) seed (lvs wi seed (2 ^ H))
theorem Ky5.fr0 {wi H : Nat} {seed : List Nat} {w w' : World} {kb : Nat} (h : Ky5 wi H seed w kb) (hf : Fr (fun _ => False) w w') : Ky5 wi H seed w' kb := by
  obtain ⟨base, tb, yo, yc, h⟩ := h
  exact ⟨base, tb, yo, yc, h.fr0 hf⟩
/-- What a law of lamport's asks for, of a width and a height that may be; N keys, SZ bytes a signature, PB the public hash, SG the signatures, LF the leaves. -/
structure C5 (w : World) (wi H : Nat) (x mv : Value) (seed m : List Nat) (KY : World → Nat → Prop) (N SZ : Nat) (PB : List Nat) (SG LF : Nat → List Nat) : Prop where
  fr : ∀ w' w'' kb, KY w' kb → Fr (fun _ => False) w' w'' → KY w'' kb
  new : ∀ w', Fr (fun _ => False) w w' → Calls Tryd.prog 11 #[.int .i64 wi, .int .i64 H, x] w' fun e w'' => ∃ kb, e = .returned (.tuple #[.pointer (some ⟨kb, 0, none⟩), .int .i64 0]) ∧ KY w'' kb ∧ Fr (fun _ => False) w' w''
  liv : ∀ w', Fr (fun _ => False) w w' → Calls Tryd.prog 8 #[] w' fun e w'' => e = .returned (.bool true) ∧ Fr (fun _ => False) w' w''
  len : ∀ w' kb, KY w' kb → Calls Tryd.prog 12 #[.pointer (some ⟨kb, 0, none⟩)] w' fun e w'' => e = .returned (.int .i64 N) ∧ w'' = w'
  sign : ∀ w' kb (K : Nat), KY w' kb → Fr (fun _ => False) w w' → K < N → Calls Tryd.prog 14 #[.pointer (some ⟨kb, 0, none⟩), .int .i64 K, mv] w' fun e w'' => ∃ zo zc, e = .returned (.tuple #[.slice zo SZ zc, .int .i64 0]) ∧ OB w' w'' zo zc (SG K)
  size : ∀ w', Calls Tryd.prog 9 #[.int .i64 wi, .int .i64 H] w' fun e w'' => e = .returned (.int .i64 SZ) ∧ w'' = w'
  pub : ∀ w' kb, KY w' kb → Calls Tryd.prog 15 #[.pointer (some ⟨kb, 0, none⟩)] w' fun e w'' => ∃ yo yc, e = .returned (.slice yo wi yc) ∧ OB w' w'' yo yc PB
  leaf : ∀ w' kb (K : Nat), KY w' kb → K < N → Calls Tryd.prog 13 #[.pointer (some ⟨kb, 0, none⟩), .int .i64 K] w' fun e w'' => ∃ zo, e = .returned (.tuple #[.slice zo wi wi, .int .i64 0]) ∧ OB w' w'' zo wi (LF K)
  slen : ∀ K, K < N → (SG K).length = SZ
  sbyt : ∀ K, ∀ v ∈ SG K, v < 256
  plen : PB.length = wi
  pbyt : ∀ v ∈ PB, v < 256
  llen : ∀ K, (LF K).length = wi
  lbyt : ∀ K, ∀ v ∈ LF K, v < 256
theorem c5_of (wi H : Nat) (hw1 : 1 ≤ wi) (hw32 : wi ≤ 32) (hH : H ≤ 6) (x mv : Value) (seed m : List Nat) (w : World) (hg : GS w) (ht : GT w) (hx : Sl w x seed) (hs : seed.length ≤ 15000000) (hm : Sl w mv m) (hml : m.length ≤ 16000000) :
    C5 w wi H x mv seed m (Ky5 wi H seed) (2 ^ H) (16 * wi * wi + H * wi) (mth wi (lvs wi seed (2 ^ H))) (fun K => sig wi H K seed (sm wi m)) (fun K => lf wi (eN wi seed K)) := by
  refine ⟨fun w' w'' kb h hf => h.fr0 hf, fun w' hf => ?_, fun w' hf => lives5_any w' (hg.fr0 hf) (ht.fr0 hf), fun w' kb h => ?_, fun w' kb K h hf hK => ?_, fun w' => ?_, fun w' kb h => ?_, fun w' kb K h hK => ?_, fun K hK => sig_len wi H K hw1 hw32 hK _ _, fun K => sig_lt _ _ _ _ _, pub_len wi H hw1 hw32 _, pub_lt wi H _, fun K => lf_len5 wi hw1 hw32 _, fun K => lf_lt _ _⟩
  · refine (lnew_in wi H hw1 hw32 hH x seed w' (hg.fr0 hf) (ht.fr0 hf) (hx.fr0 hf) (by omega)).mono ?_
    rintro e w'' ⟨kb, base, tb, yo, yc, rfl, h, hF⟩
    exact ⟨kb, rfl, ⟨base, tb, yo, yc, h⟩, hF⟩
  · obtain ⟨base, tb, yo, yc, h⟩ := h
    exact lkeylen_any kb H hH w' h.c1
  · obtain ⟨base, tb, yo, yc, h⟩ := h
    exact lsign_sig wi H kb base tb K hw1 hw32 hH hK yo _ yc seed w' h (by omega) mv m (hm.fr0 hf) (by omega)
  · have := lsize_any wi H w'
    rw [szF_nat wi H hw1 hw32 hH] at this
    exact this
  · obtain ⟨base, tb, yo, yc, h⟩ := h
    exact lpublic_any wi H kb base tb hw1 hw32 hH _ seed _ w' h (lvs_len wi seed _)
  · obtain ⟨base, tb, yo, yc, h⟩ := h
    exact lleaf_in wi H kb base tb K hw1 hw32 hH hK yo _ yc seed _ w' h (by omega)
/-- What LamportTaken asks for besides. -/
structure T5 (w : World) (wi H : Nat) (mv ov : Value) (N : Nat) (PB : List Nat) (SG : Nat → List Nat) (LS : Nat → List (List Nat)) (HM HO : List Nat) : Prop where
  chk : ∀ w' pv sv (K : Nat), Fr (fun _ => False) w w' → Sl w' pv PB → Sl w' sv (SG K) → K < N → Calls Tryd.prog 16 #[.int .i64 wi, .int .i64 H, pv, .int .i64 K, mv, sv] w' fun e w'' => e = .returned (.bool true) ∧ Fr (fun _ => False) w' w''
  cho : HM = HO → ∀ w' pv sv (K : Nat), Fr (fun _ => False) w w' → Sl w' pv PB → Sl w' sv (SG K) → K < N → Calls Tryd.prog 16 #[.int .i64 wi, .int .i64 H, pv, .int .i64 K, ov, sv] w' fun e w'' => e = .returned (.bool true) ∧ Fr (fun _ => False) w' w''
  sum : ∀ w', Fr (fun _ => False) w w' → Calls Tryd.prog 26 #[.int .i64 wi, mv] w' fun e w'' => ∃ yo yc, e = .returned (.slice yo wi yc) ∧ OB w' w'' yo yc HM
  suo : ∀ w', Fr (fun _ => False) w w' → Calls Tryd.prog 26 #[.int .i64 wi, ov] w' fun e w'' => ∃ yo yc, e = .returned (.slice yo wi yc) ∧ OB w' w'' yo yc HO
  hml : HM.length = wi
  hol : HO.length = wi
  hmb : ∀ v ∈ HM, v < 256
  hob : ∀ v ∈ HO, v < 256
  of : ∀ w' y vs, Fr (fun _ => False) w w' → Pcs w' y vs (LS N) → Cp y → Calls Tryd.prog 22 #[.int .i64 wi, y] w' fun e w'' => ∃ yo yc, e = .returned (.slice yo wi yc) ∧ Sl w'' (.slice yo wi yc) PB ∧ Fr (fun _ => False) w' w''
theorem t5_of (wi H : Nat) (hw1 : 1 ≤ wi) (hw32 : wi ≤ 32) (hH : H ≤ 6) (mv ov : Value) (seed m ot : List Nat) (w : World) (hg : GS w) (hr : GR w) (hm : Sl w mv m) (hml : m.length ≤ 15000000) (ho : Sl w ov ot) (hol : ot.length ≤ 15000000) :
    T5 w wi H mv ov (2 ^ H) (mth wi (lvs wi seed (2 ^ H))) (fun K => sig wi H K seed (sm wi m)) (lvs wi seed) (sm wi m) (sm wi ot) := by
  have hsl : ∀ l : List Nat, (sm (wi : Int) l).length = wi := fun l => by rw [sm_len ⟨by omega, by omega⟩, Int.toNat_natCast]
  have hN64 : 2 ^ H ≤ 64 := Nat.pow_le_pow_right (n := 2) (by decide) hH
  refine ⟨fun w' pv sv K hf hp hs hK => ?_, fun he w' pv sv K hf hp hs hK => ?_, fun w' hf => ?_, fun w' hf => ?_, hsl _, hsl _, sm_lt _ _, sm_lt _ _, fun w' y vs hf hp hc => ?_⟩
  · have := lcheck_any wi H K pv mv sv _ m _ w' (hg.fr0 hf) hp (hm.fr0 hf) hs (by omega)
    rw [chkL_sig wi H K hw1 hw32 hH hK seed m] at this
    exact this
  · have := lcheck_any wi H K pv ov sv _ ot _ w' (hg.fr0 hf) hp (ho.fr0 hf) hs (by omega)
    have e := chkL_sig wi H K hw1 hw32 hH hK seed ot
    rw [← he] at e
    rw [e] at this
    exact this
  · have := gsum_T wi mv m w' (hr.fr0 hf) (hm.fr0 hf).s hm.b (by omega)
    rw [hsl] at this
    exact this
  · have := gsum_T wi ov ot w' (hr.fr0 hf) (ho.fr0 hf).s ho.b (by omega)
    rw [hsl] at this
    exact this
  · have := of_any wi (2 ^ H) (lvs wi seed (2 ^ H)) y vs w' (by rw [lvs_len]; exact Nat.le_refl _) (by rw [lvs_len]; omega) (hr.fr0 hf) hp hc (fun p hp => by rw [lvs_wid wi hw1 hw32 seed _ p hp]; omega)
    unfold OfSays at this
    rw [pub_len wi H hw1 hw32] at this
    exact this
end Go.Proofs.YtjokmlnghpnlbaaDoor

namespace Go.Proofs.YtjokmlnghpnlbaaDoor
open Go.RowKit

set_option maxRecDepth 100000 in
set_option maxHeartbeats 1000000 in
/-- The ref's with. -/
theorem with_any (x y : Value) (vs : List Value) (ps : List (List Nat)) (h : List Nat) (w : World) (hx : Pcs w x vs ps) (hy : Sl w y h) (hn : ps.length ≤ 8000000) :
    Calls Tryd.prog 55 #[x, y] w fun e w' => ∃ ao cp, e = .returned (.slice ao (ps.length + 1) cp) ∧ Pcs w' (.slice ao (ps.length + 1) cp) (vs ++ [y]) (ps ++ [h]) ∧ Fr (fun _ => False) w w' := by
  obtain ⟨xo, xc, rfl⟩ := hx.form
  obtain ⟨yo, yc, rfl⟩ := hy.form
  have hvl : vs.length = ps.length := hx.len
  have HG := hide (And.intro hx (And.intro hy (And.intro hn hvl)))
  clear hx hy hn hvl
  generalize hN : ps.length = N at *
  generalize hH : h.length = HL at *
  go_enter Tryd.func55, Tryd.ntmps55
  go_wp2_with fail
  go_loopw [5, 6] (fun ov iv wr => ∃ (k : Nat) (ao : Option Addr) (cp : Nat), k ≤ N ∧ iv = .int .i64 (k : Nat) ∧ ov = .slice ao k cp ∧ OS w wr ao cp (vs.take k)) (fun _ iv _ => N - (intOf iv).toNat)
  case atStart => exact ⟨0, none, 0, Nat.zero_le _, rfl, rfl, OS.nil w⟩
  case round =>
    obtain ⟨k, ao, cp, hk, rfl, rfl, hO⟩ := hrel
    have hN8 := (unhide HG).2.2.1
    have hvl := (unhide HG).2.2.2
    have htl : (vs.take k).length = k := by rw [List.length_take]; omega
    by_cases hlt : k < N
    · have hlt' : (k : Int) < (N : Int) := by omega
      have hke : k < ps.length := by omega
      obtain ⟨g, o, v, rfl, hcell, hsrc, -⟩ := (unhide HG).1.cell hO.fr k hke
      have hvk : vs[k]? = some v := by
        have hkv : k < vs.length := by omega
        rcases (unhide HG).1.at_ with ⟨e', _⟩ | ⟨_, _, e', _⟩ | ⟨g', o', c', e', hg', hc'⟩
        · simp at e'
        · simp only [Value.slice.injEq] at e'; omega
        · simp only [Value.slice.injEq, Option.some.injEq, Addr.mk.injEq, and_true] at e'
          obtain ⟨⟨rfl, rfl⟩, _⟩ := e'
          have h1 := (hO.fr.cell (p := ⟨g, o + k, none⟩) hg' (fun h => h)).trans (hc' k _ (List.getElem?_eq_getElem hkv))
          rw [h1] at hcell
          rw [List.getElem?_eq_getElem hkv, Option.some.inj hcell]
      obtain ⟨vo, vc, rfl⟩ := hsrc.form
      obtain ⟨a2, c2, w2, hr2, hO2, -, -⟩ := hO.app1 vo ps[k].length vc (by omega)
      have htk : vs.take k ++ [.slice vo ps[k].length vc] = vs.take (k + 1) := by
        rw [List.take_add_one, hvk]; rfl
      rw [htk] at hO2
      rw [htl] at hr2
      have HR2 := hide hr2
      have HO2 := hide hO2
      clear hr2 hO2 hO hsrc htk hvk htl
      generalize ps[k].length = PL at *
      go_wp2_with (at_builtin; refine wpList_app rfl (.tmp 13) (.tmp 18) 40 40 rfl _ _ _ rfl rfl (unhide HR2) ?_)
      exact ⟨⟨k + 1, a2, c2, by omega, by go_num, rfl, unhide HO2⟩, by simp [intOf]; omega⟩
    · have hkN : k = N := by omega
      have hlt' : ¬ (k : Int) < (N : Int) := by omega
      have htk : vs.take k = vs := List.take_of_length_le (by omega)
      rw [htk] at hO htl
      obtain ⟨a2, c2, w2, hr2, hO2, -, -⟩ := hO.app1 yo HL yc (by omega)
      rw [htl] at hr2
      have hpc : Pcs w2 (.slice a2 (vs ++ [Value.slice yo HL yc]).length c2) (vs ++ [.slice yo HL yc]) (ps ++ [h]) := hO2.pcs (by rw [List.length_append, List.length_append, hvl, hN]; rfl) (fun j v p hv hp => by
        by_cases hj : j < vs.length
        · rw [List.getElem?_append_left hj] at hv
          rw [List.getElem?_append_left (by omega)] at hp
          exact ((unhide HG).1.sl j v p hv hp).fr0 hO2.fr
        · have hje : j = vs.length := by
            have := (List.getElem?_eq_some_iff.1 hv).1
            rw [List.length_append, List.length_singleton] at this
            omega
          subst hje
          rw [List.getElem?_append_right (Nat.le_refl _), Nat.sub_self] at hv
          rw [List.getElem?_append_right (by omega), show vs.length - ps.length = 0 by omega] at hp
          simp only [List.getElem?_cons_zero, Option.some.injEq] at hv hp
          subst hv hp
          exact (unhide HG).2.1.fr0 hO2.fr)
      rw [List.length_append, htl] at hpc
      have HR2 := hide hr2
      have HO2 := hide (And.intro hpc (And.intro hO2.fr hkN))
      clear hr2 hO2 hO hpc htk htl hkN
      go_wp2_with (at_builtin; refine wpList_app rfl (.tmp 20) (.tmp 22) 40 40 rfl _ _ _ rfl rfl (unhide HR2) ?_)
      go_ret
      obtain ⟨h1, h2, h3⟩ := unhide HO2
      subst h3
      exact ⟨a2, c2, rfl, h1, h2⟩
theorem pth_le (wi : Nat) (m : Nat) : ∀ (ls : List (List Nat)) (i : Nat), ls.length ≤ m → (pth wi ls i).length ≤ ls.length := by
  induction m with
  | zero => intro ls i h; rw [pth_short _ _ _ (by omega)]; exact Nat.zero_le _
  | succ m ih =>
    intro ls i h
    by_cases h2 : ls.length < 2
    · rw [pth_short _ _ _ h2]; exact Nat.zero_le _
    · have h3 := hf_lt ls.length (by omega)
      have h4 := hf_pos ls.length
      by_cases hi : i < hf ls.length
      · rw [pth_l (by omega) hi, List.length_append]
        have := ih (ls.take (hf ls.length)) i (by rw [List.length_take]; omega)
        rw [List.length_take] at this
        simp; omega
      · rw [pth_r (by omega) hi, List.length_append]
        have := ih (ls.drop (hf ls.length)) (i - hf ls.length) (by rw [List.length_drop]; omega)
        rw [List.length_drop] at this
        simp; omega
def PathSays (wi : Nat) (ls : List (List Nat)) (I : Nat) (x : Value) (w : World) : Prop :=
  Calls Tryd.prog 24 #[.int .i64 wi, x, .int .i64 I] w fun e w' => ∃ yo yc us, e = .returned (.slice yo (pth wi ls I).length yc) ∧ Pcs w' (.slice yo (pth wi ls I).length yc) us (pth wi ls I) ∧ Fr (fun _ => False) w w'
set_option maxRecDepth 100000 in
theorem gpath_short (wi : Nat) (ps : List (List Nat)) (I : Nat) (x : Value) (vs : List Value) (w : World) (hp : Pcs w x vs ps) (h : ps.length < 2) : PathSays wi ps I x w := by
  unfold PathSays
  rw [pth_short _ _ _ h]
  obtain ⟨xo, xc, rfl⟩ := hp.form
  have q1 : (ps.length : Int) < 2 := by omega
  clear hp
  generalize ps.length = N at *
  go_enter Tryd.func24, Tryd.ntmps24
  go_wp2_with fail
  go_ret
  exact ⟨none, 0, [], rfl, ⟨rfl, .inl ⟨rfl, rfl⟩, (fun j v p h => by simp at h), (fun p h => by cases h)⟩, Fr.refl _ _⟩
set_option maxRecDepth 100000 in
set_option maxHeartbeats 1000000 in
/-- The ref's PathOf. -/
theorem gpath_any (wi : Nat) (n : Nat) : ∀ (ps : List (List Nat)) (I : Nat) (x : Value) (vs : List Value) (w : World), ps.length ≤ n → ps.length ≤ 8000000 → I < ps.length → GR w → Pcs w x vs ps → Cp x → (∀ p ∈ ps, p.length ≤ 4000000) → PathSays wi ps I x w := by
  induction n with
  | zero => intro ps I x vs w hl _ hI; omega
  | succ n ih =>
    intro ps I x vs w hl hl8 hIl hr hp hcx hB
    by_cases h2 : ps.length < 2
    · exact gpath_short wi ps I x vs w hp h2
    · obtain ⟨xo, xc, rfl⟩ := hp.form
      obtain ⟨g, o, v, rfl, -⟩ := hp.cell (Fr.refl _ _) 0 (by omega)
      have hk1 := hf_lt ps.length (by omega)
      have hk2 := hf_pos ps.length
      have hle : vs.length = ps.length := hp.len
      have hcapx : ps.length ≤ xc := hcx _ _ _ rfl
      have cp1 : Cp (.slice (some ⟨g, o, none⟩) (hf ps.length) xc) := fun _ _ _ e => by cases e; omega
      have cp2 : Cp (.slice (some ⟨g, o + hf ps.length, none⟩) (ps.length - hf ps.length) (xc - hf ps.length)) := fun _ _ _ e => by cases e; omega
      have hP1 := hp.take (hf ps.length) (by omega)
      have hP2 := hp.drop (hf ps.length) hk1
      have hB1 : ∀ p ∈ ps.take (hf ps.length), p.length ≤ 4000000 := fun p h => hB p (List.mem_of_mem_take h)
      have hB2 : ∀ p ∈ ps.drop (hf ps.length), p.length ≤ 4000000 := fun p h => hB p (List.mem_of_mem_drop h)
      have hl1 : (ps.take (hf ps.length)).length = hf ps.length := by rw [List.length_take]; omega
      have hl2 : (ps.drop (hf ps.length)).length = ps.length - hf ps.length := by rw [List.length_drop]
      have hha := half_any ps.length w (by omega) (by omega)
      by_cases hI : I < hf ps.length
      · have hmt := pth_l (wi := wi) (ls := ps) (i := I) (by omega) hI
        have c1 : ∀ w', Fr (fun _ => False) w w' → PathSays wi (ps.take (hf ps.length)) I (.slice (some ⟨g, o, none⟩) (hf ps.length) xc) w' := fun w' hfr => ih _ _ _ _ w' (by omega) (by omega) (by omega) (hr.fr0 hfr) (hP1.fr0 hfr) cp1 hB1
        have c2 : ∀ w', Fr (fun _ => False) w w' → OfSays wi (ps.drop (hf ps.length)) (.slice (some ⟨g, o + hf ps.length, none⟩) (ps.length - hf ps.length) (xc - hf ps.length)) w' := fun w' hfr => of_any wi _ _ _ _ w' (Nat.le_refl _) (by omega) (hr.fr0 hfr) (hP2.fr0 hfr) cp2 hB2
        have hplen : (pth wi (ps.take (hf ps.length)) I).length ≤ 8000000 := Nat.le_trans (pth_le wi _ _ _ (Nat.le_refl _)) (by omega)
        unfold PathSays at c1 ⊢
        unfold OfSays at c2
        rw [hmt]
        generalize pth wi (ps.take (hf ps.length)) I = P1 at *
        generalize mth wi (ps.drop (hf ps.length)) = M2 at *
        have hwith : ∀ (x y : Value) us w', Pcs w' x us P1 → Sl w' y M2 → _ := fun x y us w' h1 h2 => with_any x y us P1 M2 w' h1 h2 hplen
        have HG := hide (And.intro c1 (And.intro c2 (And.intro hwith hha)))
        clear hr hP1 hP2 c1 c2 hha hmt hB hB1 hB2 hp hl1 hl2 ih cp1 cp2 hcx hwith hplen
        generalize hK : hf ps.length = K at *
        have q1 : (K : Int) ≤ (ps.length : Int) := by omega
        have q2 : (K : Int) ≤ (xc : Int) := by omega
        have q3 : ¬ (ps.length : Int) < 2 := by omega
        have q4 : ¬ ps.length < 2 := by omega
        have q7 : (I : Int) < (K : Int) := by omega
        have q8 : IntKind.i64.wrap ((I : Int) - (K : Int)) = ((I - K : Nat) : Int) ∨ True := .inr trivial
        clear q8 hK
        generalize ps.length = N at *
        go_enter Tryd.func24, Tryd.ntmps24
        go_wp2_with fail
        refine (unhide HG).2.2.2.mono ?_
        rintro e w0 ⟨rfl, rfl⟩
        go_wp2_with fail
        have q5 : ¬ xc = K := by omega
        have q6 : ¬ K = xc := by omega
        go_region_held3 (fun _ => True) (trivial) (first
          | (go_at_call 24; refine ((unhide HG).1 _ ((Fr.refl _ _).drew)).mono ?_; rintro e wA ⟨yA, cA, uA, rfl, sA, fA⟩)
          | (go_at_call 22; refine ((unhide HG).2.1 _ (((Fr.refl _ _).drew).trans fA (fun _ _ h => h))).mono ?_; rintro e wB ⟨yB, cB, rfl, sB, fB⟩)
          | (go_at_call 55; refine ((unhide HG).2.2.1 _ _ _ wB (sA.fr0 fB) sB).mono ?_; rintro e wC ⟨zo, zc, rfl, oC, fC⟩))
        have hFC : Fr (fun _ => False) w0 wC := ((((Fr.refl (fun _ => False) w0).drew).trans fA (fun _ _ h => h)).trans fB (fun _ _ h => h)).trans fC (fun _ _ h => h)
        have HE := hide (And.intro oC hFC)
        clear hFC oC
        go_wp2_with fail
        go_ret
        exact ⟨zo, zc, _, by rw [List.length_append]; rfl, by rw [List.length_append]; exact (unhide HE).1, (unhide HE).2⟩
      · have hmt := pth_r (wi := wi) (ls := ps) (i := I) (by omega) hI
        have c1 : ∀ w', Fr (fun _ => False) w w' → PathSays wi (ps.drop (hf ps.length)) (I - hf ps.length) (.slice (some ⟨g, o + hf ps.length, none⟩) (ps.length - hf ps.length) (xc - hf ps.length)) w' := fun w' hfr => ih _ _ _ _ w' (by omega) (by omega) (by omega) (hr.fr0 hfr) (hP2.fr0 hfr) cp2 hB2
        have c2 : ∀ w', Fr (fun _ => False) w w' → OfSays wi (ps.take (hf ps.length)) (.slice (some ⟨g, o, none⟩) (hf ps.length) xc) w' := fun w' hfr => of_any wi _ _ _ _ w' (Nat.le_refl _) (by omega) (hr.fr0 hfr) (hP1.fr0 hfr) cp1 hB1
        have hplen : (pth wi (ps.drop (hf ps.length)) (I - hf ps.length)).length ≤ 8000000 := Nat.le_trans (pth_le wi _ _ _ (Nat.le_refl _)) (by omega)
        unfold PathSays at c1 ⊢
        unfold OfSays at c2
        rw [hmt]
        generalize pth wi (ps.drop (hf ps.length)) (I - hf ps.length) = P1 at *
        generalize mth wi (ps.take (hf ps.length)) = M2 at *
        have hwith : ∀ (x y : Value) us w', Pcs w' x us P1 → Sl w' y M2 → _ := fun x y us w' h1 h2 => with_any x y us P1 M2 w' h1 h2 hplen
        have HG := hide (And.intro c1 (And.intro c2 (And.intro hwith hha)))
        clear hr hP1 hP2 c1 c2 hha hmt hB hB1 hB2 hp hl1 hl2 ih cp1 cp2 hcx hwith hplen
        generalize hK : hf ps.length = K at *
        have q1 : (K : Int) ≤ (ps.length : Int) := by omega
        have q2 : (K : Int) ≤ (xc : Int) := by omega
        have q3 : ¬ (ps.length : Int) < 2 := by omega
        have q4 : ¬ ps.length < 2 := by omega
        have q7 : ¬ (I : Int) < (K : Int) := by omega
        have q8 : IntKind.i64.wrap ((I : Int) - (K : Int)) = ((I - K : Nat) : Int) ∨ True := .inr trivial
        have q9 : IntKind.i64.wrap ((I : Int) - (K : Int)) = (I : Int) - (K : Int) := by rw [IntKind.wrap_i64]; omega
        have q10 : ((I - K : Nat) : Int) = (I : Int) - (K : Int) := by omega
        rw [q10] at HG
        clear q8 hK q10
        generalize ps.length = N at *
        go_enter Tryd.func24, Tryd.ntmps24
        go_wp2_with fail
        refine (unhide HG).2.2.2.mono ?_
        rintro e w0 ⟨rfl, rfl⟩
        go_wp2_with fail
        have q5 : ¬ xc = K := by omega
        have q6 : ¬ K = xc := by omega
        go_region_held3 (fun _ => True) (trivial) (first
          | (go_at_call 24; refine ((unhide HG).1 _ ((Fr.refl _ _).drew)).mono ?_; rintro e wA ⟨yA, cA, uA, rfl, sA, fA⟩)
          | (go_at_call 22; refine ((unhide HG).2.1 _ (((Fr.refl _ _).drew).trans fA (fun _ _ h => h))).mono ?_; rintro e wB ⟨yB, cB, rfl, sB, fB⟩)
          | (go_at_call 55; refine ((unhide HG).2.2.1 _ _ _ wB (sA.fr0 fB) sB).mono ?_; rintro e wC ⟨zo, zc, rfl, oC, fC⟩))
        have hFC : Fr (fun _ => False) w0 wC := ((((Fr.refl (fun _ => False) w0).drew).trans fA (fun _ _ h => h)).trans fB (fun _ _ h => h)).trans fC (fun _ _ h => h)
        have HE := hide (And.intro oC hFC)
        clear hFC oC
        go_wp2_with fail
        go_ret
        exact ⟨zo, zc, _, by rw [List.length_append]; rfl, by rw [List.length_append]; exact (unhide HE).1, (unhide HE).2⟩
end Go.Proofs.YtjokmlnghpnlbaaDoor

namespace Go.Proofs.YtjokmlnghpnlbaaDoor
open Go.RowKit

/-- Keys of a seed, in memory, in blocks from B on. -/
def KyB (wi H : Nat) (seed : List Nat) (B : Nat) (w : World) (kb : Nat) : Prop := ∃ base tb yo yc, KyAt w kb base tb wi H (.slice yo seed.length yc) seed (lvs wi seed (2 ^ H)) ∧ B ≤ kb ∧ B ≤ base ∧ ∀ g o, yo = some ⟨g, o, none⟩ → B ≤ g
theorem KyB.fr {wi H B : Nat} {seed : List Nat} {w w' : World} {kb : Nat} {S : Nat → Prop} (h : KyB wi H seed B w kb) (hf : Fr S w w') (hS : ∀ k, S k → k < B ∧ 6 ≤ k) : KyB wi H seed B w' kb := by
  obtain ⟨base, tb, yo, yc, h, h1, h2, h3⟩ := h
  obtain ⟨xo, cp, vs, rs, t1, t2, t3⟩ := h.tr
  have hc : ∀ j v, w.cell? ⟨kb, j, none⟩ = some v → w'.cell? ⟨kb, j, none⟩ = some v := fun j v hv => (hf.cell (p := ⟨kb, j, none⟩) (lt_of_cell hv) (fun hs => by have := (hS kb hs).1; omega)).trans hv
  refine ⟨base, tb, yo, yc, ⟨hc _ _ h.c0, hc _ _ h.c1, hc _ _ h.c2, hc _ _ h.c3, h.sl.frD hf (.inr (fun g o n c e hs => ?_)), h.sb, h.gb, ⟨xo, cp, vs, rs, t1.fr hf (fun k hk hs => ?_), t2, t3⟩, h.gs.fr hf (fun k hk hs => ?_), h.gt.fr hf (fun k hk hs => ?_), h.wid, h.byt⟩, h1, h2, h3⟩
  · cases e; have := h3 g o rfl; have := (hS g hs).1; omega
  · have := (t1.lt k hk).1; have := (hS k hs).1; omega
  · have := (hS k hs).2; omega
  · have := (hS k hs).2; omega
theorem KyB.fr0 {wi H B : Nat} {seed : List Nat} {w w' : World} {kb : Nat} (h : KyB wi H seed B w kb) (hf : Fr (fun _ => False) w w') : KyB wi H seed B w' kb := h.fr hf (fun _ h => h.elim)
theorem KyB.ky {wi H B : Nat} {seed : List Nat} {w : World} {kb : Nat} (h : KyB wi H seed B w kb) : Ky5 wi H seed w kb := by
  obtain ⟨base, tb, yo, yc, h, _⟩ := h
  exact ⟨base, tb, yo, yc, h⟩
set_option maxRecDepth 100000 in
set_option maxHeartbeats 4000000 in
/-- New, of what may be; where its keys lie. -/
theorem lnew2_in (wi H : Nat) (hw1 : 1 ≤ wi) (hw32 : wi ≤ 32) (hH : H ≤ 6) (x : Value) (seed : List Nat) (w : World) (hg : GS w) (ht : GT w) (hx : Sl w x seed) (hs : seed.length ≤ 1000000000) :
    Calls Tryd.prog 11 #[.int .i64 wi, .int .i64 H, x] w fun e w' => ∃ kb, e = .returned (.tuple #[.pointer (some ⟨kb, 0, none⟩), .int .i64 0]) ∧ KyB wi H seed w.heap.size w' kb ∧ Fr (fun _ => False) w w' := by
  unfold KyB
  obtain ⟨xo, xc, rfl⟩ := hx.form
  have hmay := fun w' => lmay_any wi H w'
  rw [decide_eq_true (by omega)] at hmay
  have hcl := clone_sl _ seed w hx hs
  have hN64 : 2 ^ H ≤ 64 := Nat.pow_le_pow_right (n := 2) (by decide) hH
  have hps9 : 16 * wi * wi ≤ 16384 := Nat.mul_le_mul (show 16 * wi ≤ 512 by omega) hw32
  have hlen := fun kb w' (c1 : w'.cell? ⟨kb, 1, none⟩ = some (.int .i64 (H : Int))) => lkeylen_any kb H hH w' c1
  have hNG : 6 ≤ w.heap.size := ht.2
  have hsb := hx.b
  generalize hSN : seed.length = SN at *
  generalize 2 ^ H = N at *
  have HC := hide (And.intro hmay (And.intro hcl (And.intro hlen (And.intro hg (And.intro ht (And.intro hNG (And.intro hs hsb)))))))
  clear hmay hcl hlen hg ht hx hNG hs hsb
  go_enter Tryd.func11, Tryd.ntmps11
  go_wp2_with fail
  refine ((unhide HC).1 _).mono ?_
  rintro e w0 ⟨rfl, rfl⟩
  go_wp2_with fail
  refine (unhide HC).2.1.mono ?_
  rintro e w1 ⟨yo, yc, rfl, hO1⟩
  have H1 := hide hO1
  clear hO1
  go_wp2_with fail
  refine (mnew_any _ _).mono ?_
  rintro e w2 ⟨rfl, hT, hF2⟩
  obtain ⟨W, hW⟩ : ∃ W, w2.alloc (.cells #[.int .i64 (wi : Int), .int .i64 (H : Int), .slice yo SN yc, .pointer (some ⟨w1.heap.size, 0, none⟩)] 57) = W := ⟨_, rfl⟩
  have hF3 : Fr (fun _ => False) w2 W := by rw [← hW]; exact (Fr.refl _ _).alloc _
  have hcc : ∀ j, W.cell? ⟨w2.heap.size, j, none⟩ = (#[.int .i64 (wi : Int), .int .i64 (H : Int), .slice yo SN yc, .pointer (some ⟨w1.heap.size, 0, none⟩)] : Array Value)[j]? := fun j => by rw [← hW]; exact World.cell?_alloc_at _ _ _ _ rfl
  have hFW : Fr (fun _ => False) w0 W := (unhide H1).fr.trans (hF2.trans hF3 (fun _ _ h => h)) (fun _ _ h => h)
  have hKy : KyAt W w2.heap.size w1.heap.size w1.heap.size wi H (.slice yo SN yc) seed [] := by
    obtain ⟨_, _, _, _, htl⟩ := hT.cells
    have hF23 := hF2.trans hF3 (fun _ _ h => h)
    have hsl := (unhide H1).sl (unhide HC).2.2.2.2.2.2.2
    have hlt := (unhide H1).lt
    rw [hSN] at hsl hlt
    refine ⟨hcc 0, hcc 1, hcc 2, hcc 3, hsl.fr0 hF23, .inr (fun g o n c e => hlt g o n c e), Nat.le_trans (unhide HC).2.2.2.2.2.1 (unhide H1).fr.size, ⟨none, 0, [], [], hT.fr hF3 (fun _ _ h => h), rows_nil wi, fun hk => ?_⟩, (unhide HC).2.2.2.1.fr0 hFW, (unhide HC).2.2.2.2.1.fr0 hFW, fun p hp => (by cases hp), fun p hp => (by cases hp)⟩
    rcases hk with h | ⟨o, h⟩ | ⟨v, h, _⟩
    · omega
    · cases h
    · cases h
  have hbt : w0.heap.size ≤ w1.heap.size := (unhide H1).fr.size
  have d1 := hcc 1
  have HW := hide (And.intro hKy hFW)
  have HKB := hide hF2.size
  clear hT hF2 hF3 hcc hKy hFW
  go_wp2_with fail
  try rw [hW]
  have hkt : w0.heap.size ≤ w2.heap.size := by have := (unhide HW).2.size; have := (unhide HKB); omega
  have hyg : ∀ g o, yo = some ⟨g, o, none⟩ → w0.heap.size ≤ g := fun g o e => (World.ownsRow.lt (unhide H1).own g (by rw [e]; rfl)).1
  have HKT := hide (And.intro hkt (And.intro hbt hyg))
  clear hyg
  clear hkt
  generalize w2.heap.size = kb at *
  generalize w1.heap.size = tb at *
  refine ((unhide HC).2.2.1 kb W d1).mono ?_
  rintro e w3 ⟨rfl, rfl⟩
  go_wp2_with fail
  clear d1 hW
  go_loopw [24] (fun iv wr => ∃ k : Nat, k ≤ N ∧ iv = .int .i64 (k : Nat) ∧ KyAt wr kb tb tb wi H (.slice yo SN yc) seed (lvs wi seed k) ∧ Fr (fun _ => False) w0 wr) (fun iv _ => N - (intOf iv).toNat)
  case atStart => exact ⟨0, Nat.zero_le _, rfl, (unhide HW).1, (unhide HW).2⟩
  case round =>
    obtain ⟨k, hk, rfl, hI, hF⟩ := hrel
    by_cases hlt : k < N
    · have hlt' : (k : Int) < (N : Int) := by omega
      have hs9 := (unhide HC).2.2.2.2.2.2.1
      have hlk := fun w' (hf : Fr (fun _ => False) wr w') => llocks_any kb wi k _ seed w' (hI.fr0 hf).c0 (hI.fr0 hf).c2 (hI.fr0 hf).sl
      have hen := fun w' bk bi (hf : Fr (fun _ => False) wr w') (h : LkAt w' bk bi kb wi k (.slice yo SN yc) seed) => lentry_any wi _ hw1 hw32 _ _ w' (h.f (hI.gs.fr0 hf) hw1 hw32 (by omega) (by omega))
      have hel := eN_len wi hw1 hw32 seed k
      have heb := eN_lt wi seed k
      have hls := lvs_succ wi seed k
      have hll := lvs_len wi seed k
      have had := fun w' y (hf : Fr (fun _ => False) wr w') (h : Sl w' y (eN wi seed k)) => (hI.fr0 hf).add hw1 hw32 (by omega) y _ h (by omega)
      rw [← hls, hll] at had
      have e0 : ent (lk wi k seed) (8 * wi) = eN wi seed k := rfl
      rw [e0] at hen
      have hc3 := fun w' (hf : Fr (fun _ => False) wr w') => (hI.fr0 hf).c3
      generalize hEN : eN wi seed k = EN at *
      generalize hPS : 16 * wi * wi = PS at *
      have HI := hide (And.intro hlk (And.intro hen (And.intro had (And.intro hc3 (And.intro hel (And.intro heb hF))))))
      clear hlk hen had hc3 hel heb hF hI hls hll e0 hEN hPS
      have T1 : True := trivial
      go_wp2_with fail
      go_region_held3 (fun w' => w'.cell? ⟨kb, 3, none⟩ = some (.pointer (some ⟨tb, 0, none⟩)))
        (first | assumption | exact (unhide HI).2.2.2.1 _ (Fr.refl _ _).drew | exact kC.c3 | exact (unhide HI).2.2.2.1 _ fB | exact (unhide HI).2.2.2.1 _ fA)
        (first
          | (go_at_call 39; clear T1; refine ((unhide HI).1 _ (Fr.refl _ _).drew).mono ?_; rintro e wA ⟨bk, bi, rfl, hA, gA⟩; have fA : Fr (fun _ => False) wr wA := (Fr.refl _ _).drew.trans gA (fun _ _ h => h))
          | (go_at_call 38; refine ((unhide HI).2.1 _ _ _ fA hA).mono ?_; rintro e wB ⟨eo, ec, rfl, hB⟩; have fB : Fr (fun _ => False) wr wB := fA.trans hB.fr (fun _ _ h => h); have sB := (unhide HI).2.2.2.2.1 ▸ hB.sl (unhide HI).2.2.2.2.2.1)
          | (go_at_call 37; refine ((unhide HI).2.2.1 _ _ fB sB).mono ?_; rintro e wC ⟨rfl, kC, gC⟩))
      have hFC := ((unhide HI).2.2.2.2.2.2.trans fB (fun _ _ h => h)).trans gC (fun j hj hb => by omega)
      have H5 := hide (And.intro kC hFC)
      clear fA fB gA gC kC hFC hA hB sB
      go_wp2_with fail
      exact ⟨⟨k + 1, by omega, by go_num, (unhide H5).1, (unhide H5).2⟩, by simp [intOf]; omega⟩
    · have hlt' : ¬ (k : Int) < (N : Int) := by omega
      have hkN : k = N := by omega
      subst hkN
      have H5 := hide (And.intro hI hF)
      clear hI hF
      go_wp2_with fail
      refine bodyPost_ret (v := .tuple #[.pointer (some ⟨kb, 0, none⟩), .int .i64 0]) (by simp [results, Tryd.results11, go_sem]) rfl ?_
      exact ⟨kb, rfl, ⟨tb, tb, yo, ⟨yc, (unhide H5).1⟩, (unhide HKT).1, (unhide HKT).2.1, (unhide HKT).2.2⟩, (unhide H5).2⟩
end Go.Proofs.YtjokmlnghpnlbaaDoor

namespace Go.Proofs.YtjokmlnghpnlbaaDoor
open Go.RowKit

theorem lvs_at (wi : Nat) (seed : List Nat) (n k : Nat) (h : k < n) : (lvs wi seed n)[k]? = some (lf wi (eN wi seed k)) := by
  rw [List.getElem?_eq_getElem (by rw [lvs_len]; exact h), lvs_get]
/-- What LamportSigns asks for: bv the copy of the seed, whose block lies below B; LS the leaves, P the path. -/
structure S5 (w w1 : World) (wi H : Nat) (bv x mv : Value) (m : List Nat) (KY : World → Nat → Prop) (N SZ : Nat) (PB : List Nat) (SG LF : Nat → List Nat) (LS : List (List Nat)) (PT : Nat → List (List Nat)) : Prop where
  fr : ∀ w' w'' kb, KY w' kb → Fr (fun _ => False) w' w'' → KY w'' kb
  frb : ∀ w' w'' kb (S : Nat → Prop), KY w' kb → Fr S w' w'' → (∀ k, S k → k < w1.heap.size ∧ w.heap.size ≤ k) → KY w'' kb
  new : Calls Tryd.prog 11 #[.int .i64 wi, .int .i64 H, bv] w1 fun e w'' => ∃ kb, e = .returned (.tuple #[.pointer (some ⟨kb, 0, none⟩), .int .i64 0]) ∧ KY w'' kb ∧ Fr (fun _ => False) w1 w''
  liv : ∀ w', Fr (fun _ => False) w w' → Calls Tryd.prog 8 #[] w' fun e w'' => e = .returned (.bool true) ∧ Fr (fun _ => False) w' w''
  len : ∀ w' kb, KY w' kb → Calls Tryd.prog 12 #[.pointer (some ⟨kb, 0, none⟩)] w' fun e w'' => e = .returned (.int .i64 N) ∧ w'' = w'
  sign : ∀ w' kb (K : Nat) y, KY w' kb → Sl w' y m → K < N → Calls Tryd.prog 14 #[.pointer (some ⟨kb, 0, none⟩), .int .i64 K, y] w' fun e w'' => ∃ zo zc, e = .returned (.tuple #[.slice zo SZ zc, .int .i64 0]) ∧ OB w' w'' zo zc (SG K)
  signn : ∀ w' kb (K : Int) y, KY w' kb → ¬ (0 ≤ K ∧ K < N) → Calls Tryd.prog 14 #[.pointer (some ⟨kb, 0, none⟩), .int .i64 K, y] w' fun e w'' => e = .returned (.tuple #[.slice none 0 0, .int .i64 1]) ∧ Fr (fun _ => False) w' w''
  pub : ∀ w' kb, KY w' kb → Calls Tryd.prog 15 #[.pointer (some ⟨kb, 0, none⟩)] w' fun e w'' => ∃ yo yc, e = .returned (.slice yo wi yc) ∧ OB w' w'' yo yc PB
  leaf : ∀ w' kb (K : Nat), KY w' kb → K < N → Calls Tryd.prog 13 #[.pointer (some ⟨kb, 0, none⟩), .int .i64 K] w' fun e w'' => ∃ zo, e = .returned (.tuple #[.slice zo wi wi, .int .i64 0]) ∧ OB w' w'' zo wi (LF K)
  leafn : ∀ w' kb (K : Int), KY w' kb → ¬ (0 ≤ K ∧ K < N) → Calls Tryd.prog 13 #[.pointer (some ⟨kb, 0, none⟩), .int .i64 K] w' fun e w'' => e = .returned (.tuple #[.slice none 0 0, .int .i64 1]) ∧ w'' = w'
  lvs : ∀ w', Fr (fun _ => False) w w' → Calls Tryd.prog 21 #[.int .i64 wi, .int .i64 H, x] w' fun e w'' => ∃ ao cp us, e = .returned (.slice ao N cp) ∧ Pcs w'' (.slice ao N cp) us LS ∧ Cp (.slice ao N cp) ∧ Fr (fun _ => False) w' w''
  of : ∀ w' y vs, Fr (fun _ => False) w w' → Pcs w' y vs LS → Cp y → Calls Tryd.prog 22 #[.int .i64 wi, y] w' fun e w'' => ∃ yo yc, e = .returned (.slice yo wi yc) ∧ Sl w'' (.slice yo wi yc) PB ∧ Fr (fun _ => False) w' w''
  path : ∀ w' y vs (K : Nat), Fr (fun _ => False) w w' → Pcs w' y vs LS → Cp y → K < N → Calls Tryd.prog 24 #[.int .i64 wi, y, .int .i64 K] w' fun e w'' => ∃ yo n yc us, e = .returned (.slice yo n yc) ∧ Pcs w'' (.slice yo n yc) us (PT K) ∧ Fr (fun _ => False) w' w''
  with_ : ∀ w' y us (K : Nat), Fr (fun _ => False) w w' → Pcs w' y us (PT K) → K < N → Calls Tryd.prog 23 #[.int .i64 wi, x, .int .i64 K, mv, y] w' fun e w'' => ∃ yo yc, e = .returned (.slice yo SZ yc) ∧ OB w' w'' yo yc (SG K)
  lsl : LS.length = N
  lsa : ∀ K, K < N → LS[K]? = some (LF K)
  slen : ∀ K, K < N → (SG K).length = SZ
  sbyt : ∀ K, ∀ v ∈ SG K, v < 256
  plen : PB.length = wi
  pbyt : ∀ v ∈ PB, v < 256
  llen : ∀ K, (LF K).length = wi
  lbyt : ∀ K, ∀ v ∈ LF K, v < 256
theorem s5_of (wi H : Nat) (hw1 : 1 ≤ wi) (hw32 : wi ≤ 32) (hH : H ≤ 6) (bv x mv : Value) (seed m : List Nat) (w w1 : World) (hg : GS w) (hr : GR w) (ht : GT w) (hx : Sl w x seed) (hs : seed.length ≤ 2000000) (hm : Sl w mv m) (hml : m.length ≤ 2000000) (hf1 : Fr (fun _ => False) w w1) (hb : Sl w1 bv seed) :
    S5 w w1 wi H bv x mv m (KyB wi H seed w1.heap.size) (2 ^ H) (16 * wi * wi + H * wi) (mth wi (lvs wi seed (2 ^ H))) (fun K => sig wi H K seed (sm wi m)) (fun K => lf wi (eN wi seed K)) (lvs wi seed (2 ^ H)) (fun K => pth wi (lvs wi seed (2 ^ H)) K) := by
  have hN64 : 2 ^ H ≤ 64 := Nat.pow_le_pow_right (n := 2) (by decide) hH
  have hNG : 6 ≤ w.heap.size := ht.2
  have hpt : ∀ K, K < 2 ^ H → bes wi (lvs wi seed (2 ^ H)) 0 (2 ^ H) K 1 = pth wi (lvs wi seed (2 ^ H)) K := fun K hK => by
    have := bes_pth wi (lvs wi seed (2 ^ H)) (2 ^ H) 0 (2 ^ H) K (Nat.le_refl _) (by rw [lvs_len]; omega) (Nat.zero_le _) (by omega)
    have e : blk (lvs wi seed (2 ^ H)) 0 (2 ^ H) = lvs wi seed (2 ^ H) := by
      have := blk_all (lvs wi seed (2 ^ H)); rwa [lvs_len] at this
    rw [e, Nat.sub_zero] at this
    exact this
  have hk5 := fun w' kb (h : KyB wi H seed w1.heap.size w' kb) => h.ky
  refine ⟨fun w' w'' kb h hf => h.fr0 hf, fun w' w'' kb S h hf hS => h.fr hf (fun k hk => ⟨(hS k hk).1, by have := (hS k hk).2; omega⟩), ?_, fun w' hf => lives5_any w' (hg.fr0 hf) (ht.fr0 hf), fun w' kb h => ?_, fun w' kb K y h hy hK => ?_, fun w' kb K y h hK => ?_, fun w' kb h => ?_, fun w' kb K h hK => ?_, fun w' kb K h hK => ?_, fun w' hf => ?_, fun w' y vs hf hp hc => ?_, fun w' y vs K hf hp hc hK => ?_, fun w' y us K hf hp hK => ?_, lvs_len _ _ _, fun K hK => lvs_at _ _ _ _ hK, fun K hK => sig_len wi H K hw1 hw32 hK _ _, fun K => sig_lt _ _ _ _ _, pub_len wi H hw1 hw32 _, pub_lt wi H _, fun K => lf_len5 wi hw1 hw32 _, fun K => lf_lt _ _⟩
  · exact lnew2_in wi H hw1 hw32 hH bv seed w1 (hg.fr0 hf1) (ht.fr0 hf1) hb (by omega)
  · obtain ⟨base, tb, yo, yc, h⟩ := hk5 w' kb h
    exact lkeylen_any kb H hH w' h.c1
  · obtain ⟨base, tb, yo, yc, h⟩ := hk5 w' kb h
    exact lsign_sig wi H kb base tb K hw1 hw32 hH hK yo _ yc seed w' h (by omega) y m hy (by omega)
  · obtain ⟨base, tb, yo, yc, h⟩ := hk5 w' kb h
    exact lsign_no wi H kb base tb hH K hK _ y seed _ w' h (lvs_len _ _ _)
  · obtain ⟨base, tb, yo, yc, h⟩ := hk5 w' kb h
    exact lpublic_any wi H kb base tb hw1 hw32 hH _ seed _ w' h (lvs_len wi seed _)
  · obtain ⟨base, tb, yo, yc, h⟩ := hk5 w' kb h
    exact lleaf_in wi H kb base tb K hw1 hw32 hH hK yo _ yc seed _ w' h (by omega)
  · obtain ⟨base, tb, yo, yc, h⟩ := hk5 w' kb h
    exact lleaf_no H kb hH K hK w' h.c1
  · refine (g5leaves_in wi H hw1 hw32 hH x seed w' (hr.fr0 hf) (hx.fr0 hf) (by omega)).mono ?_
    rintro e w'' ⟨ao, cp, us, rfl, hL⟩
    have hlen : us.length = 2 ^ H := by rw [hL.len, lvs_len]
    have hpc := hL.pcs
    rw [hlen] at hpc
    refine ⟨ao, cp, us, rfl, hpc, fun _ _ _ e => ?_, hL.own.fr⟩
    cases e
    rcases hL.own.own.2 with ⟨e, e2⟩ | ⟨g, cap, cur, e, _, _, h3, _⟩
    · omega
    · simp only [Value.slice.injEq, true_and] at e
      rw [e.2, ← hlen]; exact h3
  · have := of_any wi (2 ^ H) (lvs wi seed (2 ^ H)) y vs w' (by rw [lvs_len]; exact Nat.le_refl _) (by rw [lvs_len]; omega) (hr.fr0 hf) hp hc (fun p hp => by rw [lvs_wid wi hw1 hw32 seed _ p hp]; omega)
    unfold OfSays at this
    rw [pub_len wi H hw1 hw32] at this
    exact this
  · have := gpath_any wi (2 ^ H) (lvs wi seed (2 ^ H)) K y vs w' (by rw [lvs_len]; exact Nat.le_refl _) (by rw [lvs_len]; omega) (by rw [lvs_len]; exact hK) (hr.fr0 hf) hp hc (fun p hp => by rw [lvs_wid wi hw1 hw32 seed _ p hp]; omega)
    unfold PathSays at this
    refine this.mono ?_
    rintro e w'' ⟨yo, yc, us, rfl, h1, h2⟩
    exact ⟨yo, _, yc, us, rfl, h1, h2⟩
  · have e := hpt K hK
    have hw : ∀ p ∈ pth wi (lvs wi seed (2 ^ H)) K, p.length = wi := by rw [← e]; exact bes_wid wi hw1 hw32 _ (lvs_wid wi hw1 hw32 seed _) _ _ _ _ _ (Nat.le_refl _)
    have hl : (pth wi (lvs wi seed (2 ^ H)) K).length ≤ 64 := by rw [← e, besH_len wi _ H K hK]; omega
    refine (g5with_in wi K hw1 hw32 (by omega) x mv y seed m us _ w' (hr.fr0 hf) (hx.fr0 hf) (by omega) (hm.fr0 hf) (by omega) hp hw hl).mono ?_
    rintro e' w'' ⟨yo, n, yc, rfl, hn, hO⟩
    rw [← e] at hn hO
    have hsl := sig_len wi H K hw1 hw32 hK seed (sm wi m)
    rw [sig] at hsl
    exact ⟨yo, yc, by rw [hn, hsl], hO⟩
end Go.Proofs.YtjokmlnghpnlbaaDoor

namespace Go.Proofs.YtjokmlnghpnlbaaDoor
open Go.RowKit

set_option maxRecDepth 100000 in
set_option maxHeartbeats 1000000 in
theorem lsigns_Ain (wi H : Nat) (hw1 : 1 ≤ wi) (hw32 : wi ≤ 32) (hH : H ≤ 6) (hp : ¬ 8 < wi) (kk : Nat) (hkk : kk < 2 ^ H) (x mv : Value) (seed m : List Nat) (w : World) (hg : GS w) (hr : GR w) (ht : GT w) (hx : Sl w x seed) (hm : Sl w mv m) (hs : seed.length ≤ 2000000) (hml : m.length ≤ 2000000) :
    Calls Tryd.prog 5 #[.int .i64 wi, .int .i64 H, x, .int .i64 kk, mv] w fun e w' => e = .returned (.bool true) ∧ Fr (fun _ => False) w w' := by
  obtain ⟨xo, xc, rfl⟩ := hx.form
  obtain ⟨mo, mc, rfl⟩ := hm.form
  have hnil : ∀ w' : World, OB w' w' none 0 [] := fun w' => ⟨own_nil _ _, Fr.refl _ _⟩
  obtain ⟨bo, bc, w1, hr1, hO1⟩ := (hnil w).app _ seed hx.s (by simp; omega)
  rw [List.nil_append] at hr1 hO1
  rw [List.length_nil] at hr1
  have happ := fun w' (hf : Fr (fun _ => False) w w') => (hnil w').app _ m (hm.fr0 hf).s (by simp; omega)
  simp only [List.nil_append, List.length_nil] at happ
  have hN64 : 2 ^ H ≤ 64 := Nat.pow_le_pow_right (n := 2) (by decide) hH
  have hN1 : 1 ≤ 2 ^ H := Nat.one_le_two_pow
  have hW := wrap_pow H hH
  have HC := hide (s5_of wi H hw1 hw32 hH _ _ _ seed m w w1 hg hr ht hx hs hm hml hO1.fr (hO1.sl hx.b))
  have hmay := fun w' => g5may_any wi H w'
  rw [decide_eq_true (by omega)] at hmay
  have hmay2 := fun w' => g5may_any wi H w'
  rw [decide_eq_true (by omega)] at hmay2
  have hSZ9 : 16 * wi * wi ≤ 16384 := Nat.mul_le_mul (show 16 * wi ≤ 512 by omega) hw32
  have hhw9 : H * wi ≤ 192 := Nat.mul_le_mul hH hw32
  have hS9 : 16 * wi * wi + H * wi ≤ 20000 := by omega
  have hsb : seed.length ≤ 140737488355328 := by omega
  have hmb : m.length ≤ 140737488355328 := by omega
  generalize KyB wi H seed w1.heap.size = KY at *
  generalize 16 * wi * wi + H * wi = SZ at *
  generalize mth (wi : Int) (lvs wi seed (2 ^ H)) = PB at *
  generalize (fun K => pth wi (lvs wi seed (2 ^ H)) K) = PT at *
  generalize (fun K => sig wi H K seed (sm wi m)) = SG at *
  generalize (fun K => lf (wi : Int) (eN wi seed K)) = LF at *
  generalize lvs wi seed (2 ^ H) = LS at *
  generalize 2 ^ H = N at *
  have HY := hide (And.intro hmay hmay2)
  have HR1 := hide hr1
  have HA := hide (And.intro happ (And.intro hx (And.intro hm (And.intro hO1 (And.intro hsb hmb)))))
  clear hmay hmay2 hx hm hg hr ht hSZ9 hhw9 hsb hmb hr1 hO1 happ hnil
  generalize hSN : seed.length = SN at *
  generalize hML : m.length = ML at *
  have HSN := hide (And.intro hSN hML)
  clear hSN hML
  have hp' : ¬ (8 : Int) < (wi : Int) := by omega
  have hk1 : ¬ (kk : Int) < 0 := by omega
  have hk2 : ¬ (N : Int) ≤ (kk : Int) := by omega
  go_enter Tryd.func5, Tryd.ntmps5
  go_wp2_with fail
  refine ((unhide HY).1 _).mono ?_
  rintro e w0 ⟨rfl, rfl⟩
  go_wp2_with (at_builtin; refine wpList_app rfl _ _ 24 24 rfl _ _ _ rfl rfl (unhide HR1) ?_)
  refine (unhide HC).new.mono ?_
  rintro e w2 ⟨kb, rfl, hk2, hF2⟩
  have H2 := hide (And.intro hk2 hF2)
  clear hk2 hF2
  go_wp2_with fail
  refine ((unhide HY).2 _).mono ?_
  rintro e w3 ⟨rfl, rfl⟩
  have hbs : Sl w1 (.slice bo SN bc) seed := (unhide HA).2.2.2.1.sl2 (unhide HA).2.1.b (unhide HSN).1
  have hf3 : Fr (fun _ => False) w0 w3 := (unhide HA).2.2.2.1.fr.trans (unhide H2).2 (fun _ _ h => h)
  have H3 := hide (And.intro (hbs.fr0 (unhide H2).2) (And.intro ((unhide HA).2.1.fr0 hf3) hf3))
  clear hbs hf3
  go_wp2_with fail
  refine (same_T (unhide H3).1.s (unhide H3).2.1.s (by rw [(unhide HSN).1]; exact (unhide HA).2.2.2.2.1) (sameB_refl _)).mono ?_
  rintro e w4 ⟨rfl, hF4⟩
  have H4 := hide (And.intro ((unhide HC).fr _ _ _ (unhide H2).1 hF4) ((unhide H2).2.trans hF4 (fun _ _ h => h)))
  clear hF4
  go_wp2_with fail
  refine ((unhide HC).len _ _ (unhide H4).1).mono ?_
  rintro e w5 ⟨rfl, rfl⟩
  go_wp2_with fail
  go_loopw [14] (fun iv wb => ∃ (k : Nat) (L : List Nat), k ≤ SN ∧ iv = .int .i64 (k : Nat) ∧ L.length = SN ∧ Ow wb w0.heap.size bo bc L ∧ Fr (fun j => ∃ o, bo = some ⟨j, o, none⟩) w5 wb) (fun iv _ => SN - (intOf iv).toNat)
  case atStart => exact ⟨0, seed, Nat.zero_le _, rfl, (unhide HSN).1, (unhide HA).2.2.2.1.ow.fr0 (unhide H4).2, Fr.refl _ _⟩
  case round =>
    rename World => wb
    obtain ⟨k, L, hk, rfl, hL, hI, hFL⟩ := hrel
    by_cases hlt : k < SN
    · have hlt' : (k : Int) < (SN : Int) := by omega
      obtain ⟨pg, rfl⟩ : ∃ pg, bo = some ⟨pg, 0, none⟩ := by
        rcases hI.2 with ⟨_, e⟩ | ⟨pg, cap, cur, e, _⟩
        · omega
        · simp only [Value.slice.injEq] at e
          exact ⟨pg, e.1⟩
      obtain ⟨u, hu⟩ : ∃ u, wb.cell? ⟨pg, k, none⟩ = some u := by
        rw [World.ownsRow.cellAt hI k (by omega), List.getElem?_eq_getElem (by rw [cellsOf_length]; omega)]
        exact ⟨_, rfl⟩
      have hz := hI.fz k
      have hP := hI.set k 99 (by decide)
      have hF2 : Fr (fun j => ∃ o, some (⟨pg, 0, none⟩ : Addr) = some ⟨j, o, none⟩) w5 (wb.setCell ⟨pg, k, none⟩ (.int .u8 99)) := Fr.setCell hFL (p := ⟨pg, k, none⟩) (.inl ⟨0, rfl⟩) _
      have HP := hide (And.intro hP (And.intro hF2 hL))
      clear hP hF2 hL hI hFL
      go_wp2_with fail
      exact ⟨⟨k + 1, _, by omega, by go_num, by rw [List.length_set]; exact (unhide HP).2.2, (unhide HP).1, (unhide HP).2.1⟩, by simp [intOf]; omega⟩
    · have hlt' : ¬ (k : Int) < (SN : Int) := by omega
      have hsb : ∀ j, (∃ o, bo = some ⟨j, o, none⟩) → w0.heap.size ≤ j ∧ j < w1.heap.size := fun j h => by
        obtain ⟨o, rfl⟩ := h
        exact World.ownsRow.lt (unhide HA).2.2.2.1.own j rfl
      have hF0 : Fr (fun _ => False) w0 wb := ((unhide HA).2.2.2.1.fr.trans (unhide H4).2 (fun _ _ h => h)).trans (hFL.mono (T := fun j => w0.heap.size ≤ j) (fun j _ h => (hsb j h).1)) (fun i hi h => by omega)
      have hKb : KY wb kb := (unhide HC).frb _ _ _ _ (unhide H4).1 hFL (fun j h => ⟨(hsb j h).2, (hsb j h).1⟩)
      have H5 := hide (And.intro hKb hF0)
      clear hsb hF0 hKb hFL hI hL hlt hk
      go_wp2_with fail
      refine ((unhide HC).lvs _ (unhide H5).2).mono ?_
      rintro e w6 ⟨ao, cp, us, rfl, hP6, hC6, hF6⟩
      have H6 := hide (And.intro hP6 (And.intro hC6 (And.intro ((unhide HC).fr _ _ _ (unhide H5).1 hF6) ((unhide H5).2.trans hF6 (fun _ _ h => h)))))
      clear hP6 hC6 hF6
      go_wp2_with fail
      refine ((unhide HC).of _ _ us (unhide H6).2.2.2 (unhide H6).1 (unhide H6).2.1).mono ?_
      rintro e w7 ⟨yo, yc, rfl, hS7, hF7⟩
      have H7 := hide (And.intro ((unhide H6).1.fr0 hF7) (And.intro (unhide H6).2.1 (And.intro ((unhide HC).fr _ _ _ (unhide H6).2.2.1 hF7) (And.intro hS7 ((unhide H6).2.2.2.trans hF7 (fun _ _ h => h))))))
      clear hS7 hF7 H6 H5 H4 H3 H2
      go_wp2_with fail
      go_loopw [17] (fun iv wr => ∃ r : Nat, r ≤ 2 ∧ iv = .int .i64 (r : Nat) ∧ Fr (fun _ => False) w7 wr) (fun iv _ => 2 - (intOf iv).toNat)
      case atStart => exact ⟨0, by omega, rfl, Fr.refl _ _⟩
      case round =>
        rename World => wr
        obtain ⟨r, hr2, rfl, hFr⟩ := hrel
        have H8 := hide (And.intro ((unhide HC).fr _ _ _ (unhide H7).2.2.1 hFr) (And.intro ((unhide H7).1.fr0 hFr) (And.intro ((unhide H7).2.2.2.1.fr0 hFr) (And.intro ((unhide H7).2.2.2.2.trans hFr (fun _ _ h => h)) hFr))))
        clear hFr
        by_cases hlt : r < 2
        · have hlt' : (r : Int) < 2 := by omega
          go_wp2_with fail
          refine ((unhide HC).pub _ _ (unhide H8).1).mono ?_
          rintro e wA ⟨po, pc, rfl, hOA⟩
          have H9 := hide (And.intro hOA (hOA.sl2 (unhide HC).pbyt (unhide HC).plen))
          clear hOA
          go_wp2_with fail
          refine (same_T (unhide H9).2.s ((unhide H8).2.2.1.fr0 (unhide H9).1.fr).s (by rw [(unhide HC).plen]; omega) (sameB_refl _)).mono ?_
          rintro e wB ⟨rfl, hFB⟩
          have HB := hide hFB
          clear hFB
          go_wp2_with fail
          go_loopw [19] (fun iv wc => ∃ (k : Nat) (L : List Nat), k ≤ wi ∧ iv = .int .i64 (k : Nat) ∧ L.length = wi ∧ Ow wc wr.heap.size po pc L ∧ Fr (fun j => ∃ o, po = some ⟨j, o, none⟩) wB wc) (fun iv _ => wi - (intOf iv).toNat)
          case atStart => exact ⟨0, PB, Nat.zero_le _, rfl, (unhide HC).plen, (unhide H9).1.ow.fr0 (unhide HB), Fr.refl _ _⟩
          case round =>
            rename World => wc
            obtain ⟨k, L, hk, rfl, hL, hI, hFL⟩ := hrel
            by_cases hlt : k < wi
            · have hlt' : (k : Int) < (wi : Int) := by omega
              obtain ⟨pg, rfl⟩ : ∃ pg, po = some ⟨pg, 0, none⟩ := by
                rcases hI.2 with ⟨_, e⟩ | ⟨pg, cap, cur, e, _⟩
                · omega
                · simp only [Value.slice.injEq] at e
                  exact ⟨pg, e.1⟩
              obtain ⟨u, hu⟩ : ∃ u, wc.cell? ⟨pg, k, none⟩ = some u := by
                rw [World.ownsRow.cellAt hI k (by omega), List.getElem?_eq_getElem (by rw [cellsOf_length]; omega)]
                exact ⟨_, rfl⟩
              have hz := hI.fz k
              have hP := hI.set k 99 (by decide)
              have hF2 : Fr (fun j => ∃ o, some (⟨pg, 0, none⟩ : Addr) = some ⟨j, o, none⟩) wB (wc.setCell ⟨pg, k, none⟩ (.int .u8 99)) := Fr.setCell hFL (p := ⟨pg, k, none⟩) (.inl ⟨0, rfl⟩) _
              have HP := hide (And.intro hP (And.intro hF2 hL))
              clear hP hF2 hL hI hFL
              go_wp2_with fail
              exact ⟨⟨k + 1, _, by omega, by go_num, by rw [List.length_set]; exact (unhide HP).2.2, (unhide HP).1, (unhide HP).2.1⟩, by simp [intOf]; omega⟩
            · have hlt' : ¬ (k : Int) < (wi : Int) := by omega
              have hFC : Fr (fun _ => False) wr wc := ((unhide H9).1.fr.trans (unhide HB) (fun _ _ h => h)).trans (hFL.mono (T := fun j => wr.heap.size ≤ j) (fun j _ h => by
                obtain ⟨o, rfl⟩ := h
                exact (World.ownsRow.lt (unhide H9).1.own j rfl).1)) (fun i hi h => by omega)
              have hKC := (unhide HC).fr _ _ _ (unhide H8).1 hFC
              have HCc := hide (And.intro hKC (And.intro hFC ((unhide H8).2.2.2.1.trans hFC (fun _ _ h => h))))
              clear hFC hKC hFL hI hL hlt hk H9 HB
              go_wp2_with fail
              refine ((unhide HC).leaf _ _ kk (unhide HCc).1 hkk).mono ?_
              rintro e wD ⟨lo, rfl, hOD⟩
              obtain ⟨mo2, mc2, wE, hrE, hOE⟩ := (unhide HA).1 wD ((unhide HCc).2.2.trans hOD.fr (fun _ _ h => h))
              have hmE : Sl wE (.slice mo2 ML mc2) m := hOE.sl2 (unhide HA).2.2.1.b (unhide HSN).2
              have HRE := hide hrE
              have HE := hide (And.intro hOD (And.intro hOE (And.intro hmE ((unhide HC).fr _ _ _ (unhide HCc).1 (hOD.fr.trans hOE.fr (fun _ _ h => h))))))
              clear hrE hOD hOE hmE
              go_wp2_with (at_builtin; refine wpList_app rfl _ _ 24 24 rfl _ _ _ rfl rfl (unhide HRE) ?_)
              refine ((unhide HC).sign _ _ kk _ (unhide HE).2.2.2 (unhide HE).2.2.1 hkk).mono ?_
              rintro e wF ⟨so, sc, rfl, hOF⟩
              have hcF : Fr (fun _ => False) wc wF := (unhide HE).1.fr.trans ((unhide HE).2.1.fr.trans hOF.fr (fun _ _ h => h)) (fun _ _ h => h)
              have HF := hide (And.intro hOF (And.intro ((unhide HE).2.2.1.fr0 hOF.fr) (And.intro hcF ((unhide HA).2.2.1.fr0 ((unhide HCc).2.2.trans hcF (fun _ _ h => h))))))
              clear hOF hcF
              go_wp2_with fail
              refine (same_T (unhide HF).2.1.s (unhide HF).2.2.2.s (by rw [(unhide HSN).2]; exact (unhide HA).2.2.2.2.2) (sameB_refl _)).mono ?_
              rintro e wG ⟨rfl, hFG⟩
              have hcG : Fr (fun _ => False) wc wG := (unhide HF).2.2.1.trans hFG (fun _ _ h => h)
              have hrG : Fr (fun _ => False) wr wG := (unhide HCc).2.1.trans hcG (fun _ _ h => h)
              have hlo : Ow wG wc.heap.size lo wi (LF kk) := (unhide HE).1.ow.fr0 ((unhide HE).2.1.fr.trans ((unhide HF).1.fr.trans hFG (fun _ _ h => h)) (fun _ _ h => h))
              have hso : Ow wG wE.heap.size so sc (SG kk) := (unhide HF).1.ow.fr0 hFG
              have hlb : ∀ j, (∃ o, lo = some ⟨j, o, none⟩) → wc.heap.size ≤ j ∧ j < wD.heap.size := fun j h => by
                obtain ⟨o, rfl⟩ := h
                exact World.ownsRow.lt (unhide HE).1.own j rfl
              have hbb : ∀ j, (∃ o, so = some ⟨j, o, none⟩) → wE.heap.size ≤ j := fun j h => by
                obtain ⟨o, rfl⟩ := h
                exact (World.ownsRow.lt (unhide HF).1.own j rfl).1
              have hDE : wD.heap.size ≤ wE.heap.size := (unhide HE).2.1.fr.size
              have hcD : wc.heap.size ≤ wD.heap.size := (unhide HE).1.fr.size
              have HG := hide (And.intro hcG (And.intro hrG (And.intro hlo (And.intro hso (And.intro ((unhide H8).2.1.fr0 hrG) ((unhide H8).2.2.2.1.trans hrG (fun _ _ h => h)))))))
              have HGB := hide (And.intro hlb (And.intro hbb (And.intro hDE hcD)))
              clear hFG hcG hrG hlo hso hlb hbb hDE hcD HF HE
              go_wp2_with fail
              refine ((unhide HC).path _ _ us kk (unhide HG).2.2.2.2.2 (unhide HG).2.2.2.2.1 (unhide H7).2.1 hkk).mono ?_
              rintro e wH ⟨qo, qn, qc, us2, rfl, hPH, hFH⟩
              have HH := hide (And.intro hPH hFH)
              clear hPH hFH
              go_wp2_with fail
              refine ((unhide HC).with_ _ _ us2 kk ((unhide HG).2.2.2.2.2.trans (unhide HH).2 (fun _ _ h => h)) (unhide HH).1 hkk).mono ?_
              rintro e wI ⟨wo, wcp, rfl, hOI⟩
              have hGI : Fr (fun _ => False) wG wI := (unhide HH).2.trans hOI.fr (fun _ _ h => h)
              have hls := (unhide HC).lsl
              have hla := (unhide HC).lsa kk hkk
              obtain ⟨g, o, v, rfl, hcell, hsrc, h9⟩ := (unhide HG).2.2.2.2.1.cell hGI kk (by omega)
              clear h9
              rw [List.getElem?_eq_getElem (by omega), Option.some.injEq] at hla
              rw [hla] at hsrc
              obtain ⟨vo, vc, rfl⟩ := hsrc.form
              have hll := (unhide HC).llen kk
              rw [hll] at hsrc hcell
              have hwS : Src wI (.slice wo SZ wcp) (SG kk) := (unhide HC).slen kk hkk ▸ hOI.src
              have hsS : Src wI (.slice so SZ sc) (SG kk) := (unhide HC).slen kk hkk ▸ ((unhide HG).2.2.2.1.fr0 hGI).src
              have hlS : Src wI (.slice lo wi wi) (LF kk) := (unhide HC).llen kk ▸ ((unhide HG).2.2.1.fr0 hGI).src
              have HI := hide (And.intro hGI (And.intro hwS (And.intro hsS (And.intro hlS hsrc))))
              clear hGI hwS hsS hlS hsrc hls hla hll hOI HH
              go_wp2_with fail
              refine (same_T (unhide HI).2.2.2.1 (unhide HI).2.2.2.2 (by rw [(unhide HC).llen]; omega) (sameB_refl _)).mono ?_
              rintro e wJ ⟨rfl, hFJ⟩
              have HJ := hide hFJ
              clear hFJ
              go_wp2_with fail
              refine (same_T ((unhide HI).2.2.1.fr0 (unhide HJ)) ((unhide HI).2.1.fr0 (unhide HJ)) (by rw [(unhide HC).slen kk hkk]; omega) (sameB_refl _)).mono ?_
              rintro e wK ⟨rfl, hFK⟩
              have hGK : Fr (fun _ => False) wG wK := (unhide HI).1.trans ((unhide HJ).trans hFK (fun _ _ h => h)) (fun _ _ h => h)
              have HK := hide (And.intro hGK (And.intro ((unhide HG).2.2.1.fr0 hGK) ((unhide HG).2.2.2.1.fr0 hGK)))
              clear hFK hGK HI HJ hcell
              go_wp2_with fail
              go_loopw [26] (fun iv wl => ∃ (k : Nat) (L : List Nat), k ≤ wi ∧ iv = .int .i64 (k : Nat) ∧ L.length = wi ∧ Ow wl wc.heap.size lo wi L ∧ Fr (fun j => ∃ o, lo = some ⟨j, o, none⟩) wK wl) (fun iv _ => wi - (intOf iv).toNat)
              case atStart => exact ⟨0, (LF kk), Nat.zero_le _, rfl, (unhide HC).llen kk, (unhide HK).2.1, Fr.refl _ _⟩
              case round =>
                rename World => wl
                obtain ⟨k, L, hk, rfl, hL, hI, hFL⟩ := hrel
                by_cases hlt : k < wi
                · have hlt' : (k : Int) < (wi : Int) := by omega
                  obtain ⟨pg, rfl⟩ : ∃ pg, lo = some ⟨pg, 0, none⟩ := by
                    rcases hI.2 with ⟨_, e⟩ | ⟨pg, cap, cur, e, _⟩
                    · omega
                    · simp only [Value.slice.injEq] at e
                      exact ⟨pg, e.1⟩
                  obtain ⟨u, hu⟩ : ∃ u, wl.cell? ⟨pg, k, none⟩ = some u := by
                    rw [World.ownsRow.cellAt hI k (by omega), List.getElem?_eq_getElem (by rw [cellsOf_length]; omega)]
                    exact ⟨_, rfl⟩
                  have hz := hI.fz k
                  have hP := hI.set k 99 (by decide)
                  have hF2 : Fr (fun j => ∃ o, some (⟨pg, 0, none⟩ : Addr) = some ⟨j, o, none⟩) wK (wl.setCell ⟨pg, k, none⟩ (.int .u8 99)) := Fr.setCell hFL (p := ⟨pg, k, none⟩) (.inl ⟨0, rfl⟩) _
                  have HP := hide (And.intro hP (And.intro hF2 hL))
                  clear hP hF2 hL hI hFL
                  go_wp2_with fail
                  exact ⟨⟨k + 1, _, by omega, by go_num, by rw [List.length_set]; exact (unhide HP).2.2, (unhide HP).1, (unhide HP).2.1⟩, by simp [intOf]; omega⟩
                · have hlt' : ¬ (k : Int) < (wi : Int) := by omega
                  have hsl : Ow wl wE.heap.size so sc (SG kk) := (unhide HK).2.2.frB hFL (fun g o e h => by
                    have h1 := ((unhide HGB).1 g h).2
                    have h2 := (unhide HGB).2.1 g ⟨o, e⟩
                    have h3 := (unhide HGB).2.2.1
                    omega)
                  have hcl : Fr (fun _ => False) wc wl := ((unhide HG).1.trans (unhide HK).1 (fun _ _ h => h)).trans (hFL.mono (T := fun j => wc.heap.size ≤ j) (fun j _ h => ((unhide HGB).1 j h).1)) (fun i hi h => by omega)
                  have HL := hide (And.intro hsl hcl)
                  clear hsl hcl hFL hI hL hlt hk
                  go_wp2_with fail
                  go_loopw [27] (fun iv ws => ∃ (k : Nat) (L : List Nat), k ≤ SZ ∧ iv = .int .i64 (k : Nat) ∧ L.length = SZ ∧ Ow ws wE.heap.size so sc L ∧ Fr (fun j => ∃ o, so = some ⟨j, o, none⟩) wl ws) (fun iv _ => SZ - (intOf iv).toNat)
                  case atStart => exact ⟨0, (SG kk), Nat.zero_le _, rfl, (unhide HC).slen kk hkk, (unhide HL).1, Fr.refl _ _⟩
                  case round =>
                    rename World => ws
                    obtain ⟨k, L, hk, rfl, hL, hI, hFL⟩ := hrel
                    by_cases hlt : k < SZ
                    · have hlt' : (k : Int) < (SZ : Int) := by omega
                      obtain ⟨pg, rfl⟩ : ∃ pg, so = some ⟨pg, 0, none⟩ := by
                        rcases hI.2 with ⟨_, e⟩ | ⟨pg, cap, cur, e, _⟩
                        · omega
                        · simp only [Value.slice.injEq] at e
                          exact ⟨pg, e.1⟩
                      obtain ⟨u, hu⟩ : ∃ u, ws.cell? ⟨pg, k, none⟩ = some u := by
                        rw [World.ownsRow.cellAt hI k (by omega), List.getElem?_eq_getElem (by rw [cellsOf_length]; omega)]
                        exact ⟨_, rfl⟩
                      have hz := hI.fz k
                      have hP := hI.set k 99 (by decide)
                      have hF2 : Fr (fun j => ∃ o, some (⟨pg, 0, none⟩ : Addr) = some ⟨j, o, none⟩) wl (ws.setCell ⟨pg, k, none⟩ (.int .u8 99)) := Fr.setCell hFL (p := ⟨pg, k, none⟩) (.inl ⟨0, rfl⟩) _
                      have HP := hide (And.intro hP (And.intro hF2 hL))
                      clear hP hF2 hL hI hFL
                      go_wp2_with fail
                      exact ⟨⟨k + 1, _, by omega, by go_num, by rw [List.length_set]; exact (unhide HP).2.2, (unhide HP).1, (unhide HP).2.1⟩, by simp [intOf]; omega⟩
                    · have hlt' : ¬ (k : Int) < (SZ : Int) := by omega
                      have hcs : Fr (fun _ => False) wc ws := (unhide HL).2.trans (hFL.mono (T := fun j => wc.heap.size ≤ j) (fun j _ h => by
                        have h2 := (unhide HGB).2.1 j h
                        have h3 := (unhide HGB).2.2.1
                        have h4 := (unhide HGB).2.2.2
                        omega)) (fun i hi h => by omega)
                      have HS := hide ((unhide H8).2.2.2.2.trans ((unhide HCc).2.1.trans hcs (fun _ _ h => h)) (fun _ _ h => h))
                      clear hcs hFL hI hL hlt hk
                      go_wp2_with fail
                      exact ⟨⟨r + 1, by omega, by go_num, unhide HS⟩, by simp [intOf]; omega⟩
        · have hlt' : ¬ (r : Int) < 2 := by omega
          have HS := hide (unhide H8).2.2.2.1
          clear H8
          go_wp2_with fail
          refine ((unhide HC).liv _ (unhide HS)).mono ?_
          rintro e wZ ⟨rfl, hFZ⟩
          have HZ := hide ((unhide HS).trans hFZ (fun _ _ h => h))
          clear hFZ
          go_wp2_with fail
          go_ret
          exact ⟨rfl, unhide HZ⟩
end Go.Proofs.YtjokmlnghpnlbaaDoor

namespace Go.Proofs.YtjokmlnghpnlbaaDoor
open Go.RowKit

set_option maxRecDepth 100000 in
set_option maxHeartbeats 1000000 in
theorem lsigns_Aneg (wi H : Nat) (hw1 : 1 ≤ wi) (hw32 : wi ≤ 32) (hH : H ≤ 6) (hp : ¬ 8 < wi) (K : Int) (hK : K < 0) (x mv : Value) (seed m : List Nat) (w : World) (hg : GS w) (hr : GR w) (ht : GT w) (hx : Sl w x seed) (hm : Sl w mv m) (hs : seed.length ≤ 2000000) (hml : m.length ≤ 2000000) :
    Calls Tryd.prog 5 #[.int .i64 wi, .int .i64 H, x, .int .i64 K, mv] w fun e w' => e = .returned (.bool true) ∧ Fr (fun _ => False) w w' := by
  obtain ⟨xo, xc, rfl⟩ := hx.form
  obtain ⟨mo, mc, rfl⟩ := hm.form
  have hnil : ∀ w' : World, OB w' w' none 0 [] := fun w' => ⟨own_nil _ _, Fr.refl _ _⟩
  obtain ⟨bo, bc, w1, hr1, hO1⟩ := (hnil w).app _ seed hx.s (by simp; omega)
  rw [List.nil_append] at hr1 hO1
  rw [List.length_nil] at hr1
  have happ := fun w' (hf : Fr (fun _ => False) w w') => (hnil w').app _ m (hm.fr0 hf).s (by simp; omega)
  simp only [List.nil_append, List.length_nil] at happ
  have hN64 : 2 ^ H ≤ 64 := Nat.pow_le_pow_right (n := 2) (by decide) hH
  have hN1 : 1 ≤ 2 ^ H := Nat.one_le_two_pow
  have hW := wrap_pow H hH
  have HC := hide (s5_of wi H hw1 hw32 hH _ _ _ seed m w w1 hg hr ht hx hs hm hml hO1.fr (hO1.sl hx.b))
  have hmay := fun w' => g5may_any wi H w'
  rw [decide_eq_true (by omega)] at hmay
  have hmay2 := fun w' => g5may_any wi H w'
  rw [decide_eq_true (by omega)] at hmay2
  have hSZ9 : 16 * wi * wi ≤ 16384 := Nat.mul_le_mul (show 16 * wi ≤ 512 by omega) hw32
  have hhw9 : H * wi ≤ 192 := Nat.mul_le_mul hH hw32
  have hS9 : 16 * wi * wi + H * wi ≤ 20000 := by omega
  have hsb : seed.length ≤ 140737488355328 := by omega
  have hmb : m.length ≤ 140737488355328 := by omega
  generalize KyB wi H seed w1.heap.size = KY at *
  generalize 16 * wi * wi + H * wi = SZ at *
  generalize mth (wi : Int) (lvs wi seed (2 ^ H)) = PB at *
  generalize (fun K => pth wi (lvs wi seed (2 ^ H)) K) = PT at *
  generalize (fun K => sig wi H K seed (sm wi m)) = SG at *
  generalize (fun K => lf (wi : Int) (eN wi seed K)) = LF at *
  generalize lvs wi seed (2 ^ H) = LS at *
  generalize 2 ^ H = N at *
  have HY := hide (And.intro hmay hmay2)
  have HR1 := hide hr1
  have HA := hide (And.intro happ (And.intro hx (And.intro hm (And.intro hO1 (And.intro hsb hmb)))))
  clear hmay hmay2 hx hm hg hr ht hSZ9 hhw9 hsb hmb hr1 hO1 happ hnil
  generalize hSN : seed.length = SN at *
  generalize hML : m.length = ML at *
  have HSN := hide (And.intro hSN hML)
  clear hSN hML
  have hp' : ¬ (8 : Int) < (wi : Int) := by omega
  have hKn : ¬ (0 ≤ K ∧ K < ((N : Nat) : Int)) := by omega
  go_enter Tryd.func5, Tryd.ntmps5
  go_wp2_with fail
  refine ((unhide HY).1 _).mono ?_
  rintro e w0 ⟨rfl, rfl⟩
  go_wp2_with (at_builtin; refine wpList_app rfl _ _ 24 24 rfl _ _ _ rfl rfl (unhide HR1) ?_)
  refine (unhide HC).new.mono ?_
  rintro e w2 ⟨kb, rfl, hk2, hF2⟩
  have H2 := hide (And.intro hk2 hF2)
  clear hk2 hF2
  go_wp2_with fail
  refine ((unhide HY).2 _).mono ?_
  rintro e w3 ⟨rfl, rfl⟩
  have hbs : Sl w1 (.slice bo SN bc) seed := (unhide HA).2.2.2.1.sl2 (unhide HA).2.1.b (unhide HSN).1
  have hf3 : Fr (fun _ => False) w0 w3 := (unhide HA).2.2.2.1.fr.trans (unhide H2).2 (fun _ _ h => h)
  have H3 := hide (And.intro (hbs.fr0 (unhide H2).2) (And.intro ((unhide HA).2.1.fr0 hf3) hf3))
  clear hbs hf3
  go_wp2_with fail
  refine (same_T (unhide H3).1.s (unhide H3).2.1.s (by rw [(unhide HSN).1]; exact (unhide HA).2.2.2.2.1) (sameB_refl _)).mono ?_
  rintro e w4 ⟨rfl, hF4⟩
  have H4 := hide (And.intro ((unhide HC).fr _ _ _ (unhide H2).1 hF4) ((unhide H2).2.trans hF4 (fun _ _ h => h)))
  clear hF4
  go_wp2_with fail
  refine ((unhide HC).len _ _ (unhide H4).1).mono ?_
  rintro e w5 ⟨rfl, rfl⟩
  go_wp2_with fail
  go_loopw [14] (fun iv wb => ∃ (k : Nat) (L : List Nat), k ≤ SN ∧ iv = .int .i64 (k : Nat) ∧ L.length = SN ∧ Ow wb w0.heap.size bo bc L ∧ Fr (fun j => ∃ o, bo = some ⟨j, o, none⟩) w5 wb) (fun iv _ => SN - (intOf iv).toNat)
  case atStart => exact ⟨0, seed, Nat.zero_le _, rfl, (unhide HSN).1, (unhide HA).2.2.2.1.ow.fr0 (unhide H4).2, Fr.refl _ _⟩
  case round =>
    rename World => wb
    obtain ⟨k, L, hk, rfl, hL, hI, hFL⟩ := hrel
    by_cases hlt : k < SN
    · have hlt' : (k : Int) < (SN : Int) := by omega
      obtain ⟨pg, rfl⟩ : ∃ pg, bo = some ⟨pg, 0, none⟩ := by
        rcases hI.2 with ⟨_, e⟩ | ⟨pg, cap, cur, e, _⟩
        · omega
        · simp only [Value.slice.injEq] at e
          exact ⟨pg, e.1⟩
      obtain ⟨u, hu⟩ : ∃ u, wb.cell? ⟨pg, k, none⟩ = some u := by
        rw [World.ownsRow.cellAt hI k (by omega), List.getElem?_eq_getElem (by rw [cellsOf_length]; omega)]
        exact ⟨_, rfl⟩
      have hz := hI.fz k
      have hP := hI.set k 99 (by decide)
      have hF2 : Fr (fun j => ∃ o, some (⟨pg, 0, none⟩ : Addr) = some ⟨j, o, none⟩) w5 (wb.setCell ⟨pg, k, none⟩ (.int .u8 99)) := Fr.setCell hFL (p := ⟨pg, k, none⟩) (.inl ⟨0, rfl⟩) _
      have HP := hide (And.intro hP (And.intro hF2 hL))
      clear hP hF2 hL hI hFL
      go_wp2_with fail
      exact ⟨⟨k + 1, _, by omega, by go_num, by rw [List.length_set]; exact (unhide HP).2.2, (unhide HP).1, (unhide HP).2.1⟩, by simp [intOf]; omega⟩
    · have hlt' : ¬ (k : Int) < (SN : Int) := by omega
      have hsb : ∀ j, (∃ o, bo = some ⟨j, o, none⟩) → w0.heap.size ≤ j ∧ j < w1.heap.size := fun j h => by
        obtain ⟨o, rfl⟩ := h
        exact World.ownsRow.lt (unhide HA).2.2.2.1.own j rfl
      have hF0 : Fr (fun _ => False) w0 wb := ((unhide HA).2.2.2.1.fr.trans (unhide H4).2 (fun _ _ h => h)).trans (hFL.mono (T := fun j => w0.heap.size ≤ j) (fun j _ h => (hsb j h).1)) (fun i hi h => by omega)
      have hKb : KY wb kb := (unhide HC).frb _ _ _ _ (unhide H4).1 hFL (fun j h => ⟨(hsb j h).2, (hsb j h).1⟩)
      have H5 := hide (And.intro hKb hF0)
      clear hsb hF0 hKb hFL hI hL hlt hk
      go_wp2_with fail
      refine ((unhide HC).lvs _ (unhide H5).2).mono ?_
      rintro e w6 ⟨ao, cp, us, rfl, hP6, hC6, hF6⟩
      have H6 := hide (And.intro hP6 (And.intro hC6 (And.intro ((unhide HC).fr _ _ _ (unhide H5).1 hF6) ((unhide H5).2.trans hF6 (fun _ _ h => h)))))
      clear hP6 hC6 hF6
      go_wp2_with fail
      refine ((unhide HC).of _ _ us (unhide H6).2.2.2 (unhide H6).1 (unhide H6).2.1).mono ?_
      rintro e w7 ⟨yo, yc, rfl, hS7, hF7⟩
      have H7 := hide (And.intro ((unhide H6).1.fr0 hF7) (And.intro (unhide H6).2.1 (And.intro ((unhide HC).fr _ _ _ (unhide H6).2.2.1 hF7) (And.intro hS7 ((unhide H6).2.2.2.trans hF7 (fun _ _ h => h))))))
      clear hS7 hF7 H6 H5 H4 H3 H2
      go_wp2_with fail
      go_loopw [17] (fun iv wr => ∃ r : Nat, r ≤ 2 ∧ iv = .int .i64 (r : Nat) ∧ Fr (fun _ => False) w7 wr) (fun iv _ => 2 - (intOf iv).toNat)
      case atStart => exact ⟨0, by omega, rfl, Fr.refl _ _⟩
      case round =>
        rename World => wr
        obtain ⟨r, hr2, rfl, hFr⟩ := hrel
        have H8 := hide (And.intro ((unhide HC).fr _ _ _ (unhide H7).2.2.1 hFr) (And.intro ((unhide H7).1.fr0 hFr) (And.intro ((unhide H7).2.2.2.1.fr0 hFr) (And.intro ((unhide H7).2.2.2.2.trans hFr (fun _ _ h => h)) hFr))))
        clear hFr
        by_cases hlt : r < 2
        · have hlt' : (r : Int) < 2 := by omega
          go_wp2_with fail
          refine ((unhide HC).pub _ _ (unhide H8).1).mono ?_
          rintro e wA ⟨po, pc, rfl, hOA⟩
          have H9 := hide (And.intro hOA (hOA.sl2 (unhide HC).pbyt (unhide HC).plen))
          clear hOA
          go_wp2_with fail
          refine (same_T (unhide H9).2.s ((unhide H8).2.2.1.fr0 (unhide H9).1.fr).s (by rw [(unhide HC).plen]; omega) (sameB_refl _)).mono ?_
          rintro e wB ⟨rfl, hFB⟩
          have HB := hide hFB
          clear hFB
          go_wp2_with fail
          go_loopw [19] (fun iv wc => ∃ (k : Nat) (L : List Nat), k ≤ wi ∧ iv = .int .i64 (k : Nat) ∧ L.length = wi ∧ Ow wc wr.heap.size po pc L ∧ Fr (fun j => ∃ o, po = some ⟨j, o, none⟩) wB wc) (fun iv _ => wi - (intOf iv).toNat)
          case atStart => exact ⟨0, PB, Nat.zero_le _, rfl, (unhide HC).plen, (unhide H9).1.ow.fr0 (unhide HB), Fr.refl _ _⟩
          case round =>
            rename World => wc
            obtain ⟨k, L, hk, rfl, hL, hI, hFL⟩ := hrel
            by_cases hlt : k < wi
            · have hlt' : (k : Int) < (wi : Int) := by omega
              obtain ⟨pg, rfl⟩ : ∃ pg, po = some ⟨pg, 0, none⟩ := by
                rcases hI.2 with ⟨_, e⟩ | ⟨pg, cap, cur, e, _⟩
                · omega
                · simp only [Value.slice.injEq] at e
                  exact ⟨pg, e.1⟩
              obtain ⟨u, hu⟩ : ∃ u, wc.cell? ⟨pg, k, none⟩ = some u := by
                rw [World.ownsRow.cellAt hI k (by omega), List.getElem?_eq_getElem (by rw [cellsOf_length]; omega)]
                exact ⟨_, rfl⟩
              have hz := hI.fz k
              have hP := hI.set k 99 (by decide)
              have hF2 : Fr (fun j => ∃ o, some (⟨pg, 0, none⟩ : Addr) = some ⟨j, o, none⟩) wB (wc.setCell ⟨pg, k, none⟩ (.int .u8 99)) := Fr.setCell hFL (p := ⟨pg, k, none⟩) (.inl ⟨0, rfl⟩) _
              have HP := hide (And.intro hP (And.intro hF2 hL))
              clear hP hF2 hL hI hFL
              go_wp2_with fail
              exact ⟨⟨k + 1, _, by omega, by go_num, by rw [List.length_set]; exact (unhide HP).2.2, (unhide HP).1, (unhide HP).2.1⟩, by simp [intOf]; omega⟩
            · have hlt' : ¬ (k : Int) < (wi : Int) := by omega
              have hFC : Fr (fun _ => False) wr wc := ((unhide H9).1.fr.trans (unhide HB) (fun _ _ h => h)).trans (hFL.mono (T := fun j => wr.heap.size ≤ j) (fun j _ h => by
                obtain ⟨o, rfl⟩ := h
                exact (World.ownsRow.lt (unhide H9).1.own j rfl).1)) (fun i hi h => by omega)
              have hKC := (unhide HC).fr _ _ _ (unhide H8).1 hFC
              have HCc := hide (And.intro hKC (And.intro hFC ((unhide H8).2.2.2.1.trans hFC (fun _ _ h => h))))
              clear hFC hKC hFL hI hL hlt hk H9 HB
              go_wp2_with fail
              refine ((unhide HC).leafn _ _ K (unhide HCc).1 hKn).mono ?_
              rintro e wD ⟨rfl, rfl⟩
              obtain ⟨mo2, mc2, wE, hrE, hOE⟩ := (unhide HA).1 wD (unhide HCc).2.2
              have hmE : Sl wE (.slice mo2 ML mc2) m := hOE.sl2 (unhide HA).2.2.1.b (unhide HSN).2
              have HRE := hide hrE
              have HE := hide (And.intro hOE (And.intro hmE ((unhide HC).fr _ _ _ (unhide HCc).1 hOE.fr)))
              clear hrE hOE hmE
              go_wp2_with (at_builtin; refine wpList_app rfl _ _ 24 24 rfl _ _ _ rfl rfl (unhide HRE) ?_)
              refine ((unhide HC).signn _ _ K _ (unhide HE).2.2 hKn).mono ?_
              rintro e wF ⟨rfl, hFF⟩
              have hcF : Fr (fun _ => False) wD wF := (unhide HE).1.fr.trans hFF (fun _ _ h => h)
              have HF := hide (And.intro ((unhide HE).2.1.fr0 hFF) (And.intro hcF ((unhide HA).2.2.1.fr0 ((unhide HCc).2.2.trans hcF (fun _ _ h => h)))))
              clear hFF hcF
              go_wp2_with fail
              refine (same_T (unhide HF).1.s (unhide HF).2.2.s (by rw [(unhide HSN).2]; exact (unhide HA).2.2.2.2.2) (sameB_refl _)).mono ?_
              rintro e wG ⟨rfl, hFG⟩
              have HS := hide ((unhide H8).2.2.2.2.trans ((unhide HCc).2.1.trans ((unhide HF).2.1.trans hFG (fun _ _ h => h)) (fun _ _ h => h)) (fun _ _ h => h))
              clear hFG HF HE
              go_wp2_with fail
              exact ⟨⟨r + 1, by omega, by go_num, unhide HS⟩, by simp [intOf]; omega⟩
        · have hlt' : ¬ (r : Int) < 2 := by omega
          have HS := hide (unhide H8).2.2.2.1
          clear H8
          go_wp2_with fail
          refine ((unhide HC).liv _ (unhide HS)).mono ?_
          rintro e wZ ⟨rfl, hFZ⟩
          have HZ := hide ((unhide HS).trans hFZ (fun _ _ h => h))
          clear hFZ
          go_wp2_with fail
          go_ret
          exact ⟨rfl, unhide HZ⟩
end Go.Proofs.YtjokmlnghpnlbaaDoor

namespace Go.Proofs.YtjokmlnghpnlbaaDoor
open Go.RowKit

set_option maxRecDepth 100000 in
set_option maxHeartbeats 1000000 in
theorem lsigns_Abig (wi H : Nat) (hw1 : 1 ≤ wi) (hw32 : wi ≤ 32) (hH : H ≤ 6) (hp : ¬ 8 < wi) (K : Int) (hK : ((2 ^ H : Nat) : Int) ≤ K) (x mv : Value) (seed m : List Nat) (w : World) (hg : GS w) (hr : GR w) (ht : GT w) (hx : Sl w x seed) (hm : Sl w mv m) (hs : seed.length ≤ 2000000) (hml : m.length ≤ 2000000) :
    Calls Tryd.prog 5 #[.int .i64 wi, .int .i64 H, x, .int .i64 K, mv] w fun e w' => e = .returned (.bool true) ∧ Fr (fun _ => False) w w' := by
  obtain ⟨xo, xc, rfl⟩ := hx.form
  obtain ⟨mo, mc, rfl⟩ := hm.form
  have hnil : ∀ w' : World, OB w' w' none 0 [] := fun w' => ⟨own_nil _ _, Fr.refl _ _⟩
  obtain ⟨bo, bc, w1, hr1, hO1⟩ := (hnil w).app _ seed hx.s (by simp; omega)
  rw [List.nil_append] at hr1 hO1
  rw [List.length_nil] at hr1
  have happ := fun w' (hf : Fr (fun _ => False) w w') => (hnil w').app _ m (hm.fr0 hf).s (by simp; omega)
  simp only [List.nil_append, List.length_nil] at happ
  have hN64 : 2 ^ H ≤ 64 := Nat.pow_le_pow_right (n := 2) (by decide) hH
  have hN1 : 1 ≤ 2 ^ H := Nat.one_le_two_pow
  have hW := wrap_pow H hH
  have HC := hide (s5_of wi H hw1 hw32 hH _ _ _ seed m w w1 hg hr ht hx hs hm hml hO1.fr (hO1.sl hx.b))
  have hmay := fun w' => g5may_any wi H w'
  rw [decide_eq_true (by omega)] at hmay
  have hmay2 := fun w' => g5may_any wi H w'
  rw [decide_eq_true (by omega)] at hmay2
  have hSZ9 : 16 * wi * wi ≤ 16384 := Nat.mul_le_mul (show 16 * wi ≤ 512 by omega) hw32
  have hhw9 : H * wi ≤ 192 := Nat.mul_le_mul hH hw32
  have hS9 : 16 * wi * wi + H * wi ≤ 20000 := by omega
  have hsb : seed.length ≤ 140737488355328 := by omega
  have hmb : m.length ≤ 140737488355328 := by omega
  generalize KyB wi H seed w1.heap.size = KY at *
  generalize 16 * wi * wi + H * wi = SZ at *
  generalize mth (wi : Int) (lvs wi seed (2 ^ H)) = PB at *
  generalize (fun K => pth wi (lvs wi seed (2 ^ H)) K) = PT at *
  generalize (fun K => sig wi H K seed (sm wi m)) = SG at *
  generalize (fun K => lf (wi : Int) (eN wi seed K)) = LF at *
  generalize lvs wi seed (2 ^ H) = LS at *
  generalize 2 ^ H = N at *
  have HY := hide (And.intro hmay hmay2)
  have HR1 := hide hr1
  have HA := hide (And.intro happ (And.intro hx (And.intro hm (And.intro hO1 (And.intro hsb hmb)))))
  clear hmay hmay2 hx hm hg hr ht hSZ9 hhw9 hsb hmb hr1 hO1 happ hnil
  generalize hSN : seed.length = SN at *
  generalize hML : m.length = ML at *
  have HSN := hide (And.intro hSN hML)
  clear hSN hML
  have hp' : ¬ (8 : Int) < (wi : Int) := by omega
  have hk1 : ¬ K < 0 := by omega
  have hKn : ¬ (0 ≤ K ∧ K < ((N : Nat) : Int)) := by omega
  go_enter Tryd.func5, Tryd.ntmps5
  go_wp2_with fail
  refine ((unhide HY).1 _).mono ?_
  rintro e w0 ⟨rfl, rfl⟩
  go_wp2_with (at_builtin; refine wpList_app rfl _ _ 24 24 rfl _ _ _ rfl rfl (unhide HR1) ?_)
  refine (unhide HC).new.mono ?_
  rintro e w2 ⟨kb, rfl, hk2, hF2⟩
  have H2 := hide (And.intro hk2 hF2)
  clear hk2 hF2
  go_wp2_with fail
  refine ((unhide HY).2 _).mono ?_
  rintro e w3 ⟨rfl, rfl⟩
  have hbs : Sl w1 (.slice bo SN bc) seed := (unhide HA).2.2.2.1.sl2 (unhide HA).2.1.b (unhide HSN).1
  have hf3 : Fr (fun _ => False) w0 w3 := (unhide HA).2.2.2.1.fr.trans (unhide H2).2 (fun _ _ h => h)
  have H3 := hide (And.intro (hbs.fr0 (unhide H2).2) (And.intro ((unhide HA).2.1.fr0 hf3) hf3))
  clear hbs hf3
  go_wp2_with fail
  refine (same_T (unhide H3).1.s (unhide H3).2.1.s (by rw [(unhide HSN).1]; exact (unhide HA).2.2.2.2.1) (sameB_refl _)).mono ?_
  rintro e w4 ⟨rfl, hF4⟩
  have H4 := hide (And.intro ((unhide HC).fr _ _ _ (unhide H2).1 hF4) ((unhide H2).2.trans hF4 (fun _ _ h => h)))
  clear hF4
  go_wp2_with fail
  refine ((unhide HC).len _ _ (unhide H4).1).mono ?_
  rintro e w5 ⟨rfl, rfl⟩
  go_wp2_with fail
  go_loopw [14] (fun iv wb => ∃ (k : Nat) (L : List Nat), k ≤ SN ∧ iv = .int .i64 (k : Nat) ∧ L.length = SN ∧ Ow wb w0.heap.size bo bc L ∧ Fr (fun j => ∃ o, bo = some ⟨j, o, none⟩) w5 wb) (fun iv _ => SN - (intOf iv).toNat)
  case atStart => exact ⟨0, seed, Nat.zero_le _, rfl, (unhide HSN).1, (unhide HA).2.2.2.1.ow.fr0 (unhide H4).2, Fr.refl _ _⟩
  case round =>
    rename World => wb
    obtain ⟨k, L, hk, rfl, hL, hI, hFL⟩ := hrel
    by_cases hlt : k < SN
    · have hlt' : (k : Int) < (SN : Int) := by omega
      obtain ⟨pg, rfl⟩ : ∃ pg, bo = some ⟨pg, 0, none⟩ := by
        rcases hI.2 with ⟨_, e⟩ | ⟨pg, cap, cur, e, _⟩
        · omega
        · simp only [Value.slice.injEq] at e
          exact ⟨pg, e.1⟩
      obtain ⟨u, hu⟩ : ∃ u, wb.cell? ⟨pg, k, none⟩ = some u := by
        rw [World.ownsRow.cellAt hI k (by omega), List.getElem?_eq_getElem (by rw [cellsOf_length]; omega)]
        exact ⟨_, rfl⟩
      have hz := hI.fz k
      have hP := hI.set k 99 (by decide)
      have hF2 : Fr (fun j => ∃ o, some (⟨pg, 0, none⟩ : Addr) = some ⟨j, o, none⟩) w5 (wb.setCell ⟨pg, k, none⟩ (.int .u8 99)) := Fr.setCell hFL (p := ⟨pg, k, none⟩) (.inl ⟨0, rfl⟩) _
      have HP := hide (And.intro hP (And.intro hF2 hL))
      clear hP hF2 hL hI hFL
      go_wp2_with fail
      exact ⟨⟨k + 1, _, by omega, by go_num, by rw [List.length_set]; exact (unhide HP).2.2, (unhide HP).1, (unhide HP).2.1⟩, by simp [intOf]; omega⟩
    · have hlt' : ¬ (k : Int) < (SN : Int) := by omega
      have hsb : ∀ j, (∃ o, bo = some ⟨j, o, none⟩) → w0.heap.size ≤ j ∧ j < w1.heap.size := fun j h => by
        obtain ⟨o, rfl⟩ := h
        exact World.ownsRow.lt (unhide HA).2.2.2.1.own j rfl
      have hF0 : Fr (fun _ => False) w0 wb := ((unhide HA).2.2.2.1.fr.trans (unhide H4).2 (fun _ _ h => h)).trans (hFL.mono (T := fun j => w0.heap.size ≤ j) (fun j _ h => (hsb j h).1)) (fun i hi h => by omega)
      have hKb : KY wb kb := (unhide HC).frb _ _ _ _ (unhide H4).1 hFL (fun j h => ⟨(hsb j h).2, (hsb j h).1⟩)
      have H5 := hide (And.intro hKb hF0)
      clear hsb hF0 hKb hFL hI hL hlt hk
      go_wp2_with fail
      refine ((unhide HC).lvs _ (unhide H5).2).mono ?_
      rintro e w6 ⟨ao, cp, us, rfl, hP6, hC6, hF6⟩
      have H6 := hide (And.intro hP6 (And.intro hC6 (And.intro ((unhide HC).fr _ _ _ (unhide H5).1 hF6) ((unhide H5).2.trans hF6 (fun _ _ h => h)))))
      clear hP6 hC6 hF6
      go_wp2_with fail
      refine ((unhide HC).of _ _ us (unhide H6).2.2.2 (unhide H6).1 (unhide H6).2.1).mono ?_
      rintro e w7 ⟨yo, yc, rfl, hS7, hF7⟩
      have H7 := hide (And.intro ((unhide H6).1.fr0 hF7) (And.intro (unhide H6).2.1 (And.intro ((unhide HC).fr _ _ _ (unhide H6).2.2.1 hF7) (And.intro hS7 ((unhide H6).2.2.2.trans hF7 (fun _ _ h => h))))))
      clear hS7 hF7 H6 H5 H4 H3 H2
      go_wp2_with fail
      go_loopw [17] (fun iv wr => ∃ r : Nat, r ≤ 2 ∧ iv = .int .i64 (r : Nat) ∧ Fr (fun _ => False) w7 wr) (fun iv _ => 2 - (intOf iv).toNat)
      case atStart => exact ⟨0, by omega, rfl, Fr.refl _ _⟩
      case round =>
        rename World => wr
        obtain ⟨r, hr2, rfl, hFr⟩ := hrel
        have H8 := hide (And.intro ((unhide HC).fr _ _ _ (unhide H7).2.2.1 hFr) (And.intro ((unhide H7).1.fr0 hFr) (And.intro ((unhide H7).2.2.2.1.fr0 hFr) (And.intro ((unhide H7).2.2.2.2.trans hFr (fun _ _ h => h)) hFr))))
        clear hFr
        by_cases hlt : r < 2
        · have hlt' : (r : Int) < 2 := by omega
          go_wp2_with fail
          refine ((unhide HC).pub _ _ (unhide H8).1).mono ?_
          rintro e wA ⟨po, pc, rfl, hOA⟩
          have H9 := hide (And.intro hOA (hOA.sl2 (unhide HC).pbyt (unhide HC).plen))
          clear hOA
          go_wp2_with fail
          refine (same_T (unhide H9).2.s ((unhide H8).2.2.1.fr0 (unhide H9).1.fr).s (by rw [(unhide HC).plen]; omega) (sameB_refl _)).mono ?_
          rintro e wB ⟨rfl, hFB⟩
          have HB := hide hFB
          clear hFB
          go_wp2_with fail
          go_loopw [19] (fun iv wc => ∃ (k : Nat) (L : List Nat), k ≤ wi ∧ iv = .int .i64 (k : Nat) ∧ L.length = wi ∧ Ow wc wr.heap.size po pc L ∧ Fr (fun j => ∃ o, po = some ⟨j, o, none⟩) wB wc) (fun iv _ => wi - (intOf iv).toNat)
          case atStart => exact ⟨0, PB, Nat.zero_le _, rfl, (unhide HC).plen, (unhide H9).1.ow.fr0 (unhide HB), Fr.refl _ _⟩
          case round =>
            rename World => wc
            obtain ⟨k, L, hk, rfl, hL, hI, hFL⟩ := hrel
            by_cases hlt : k < wi
            · have hlt' : (k : Int) < (wi : Int) := by omega
              obtain ⟨pg, rfl⟩ : ∃ pg, po = some ⟨pg, 0, none⟩ := by
                rcases hI.2 with ⟨_, e⟩ | ⟨pg, cap, cur, e, _⟩
                · omega
                · simp only [Value.slice.injEq] at e
                  exact ⟨pg, e.1⟩
              obtain ⟨u, hu⟩ : ∃ u, wc.cell? ⟨pg, k, none⟩ = some u := by
                rw [World.ownsRow.cellAt hI k (by omega), List.getElem?_eq_getElem (by rw [cellsOf_length]; omega)]
                exact ⟨_, rfl⟩
              have hz := hI.fz k
              have hP := hI.set k 99 (by decide)
              have hF2 : Fr (fun j => ∃ o, some (⟨pg, 0, none⟩ : Addr) = some ⟨j, o, none⟩) wB (wc.setCell ⟨pg, k, none⟩ (.int .u8 99)) := Fr.setCell hFL (p := ⟨pg, k, none⟩) (.inl ⟨0, rfl⟩) _
              have HP := hide (And.intro hP (And.intro hF2 hL))
              clear hP hF2 hL hI hFL
              go_wp2_with fail
              exact ⟨⟨k + 1, _, by omega, by go_num, by rw [List.length_set]; exact (unhide HP).2.2, (unhide HP).1, (unhide HP).2.1⟩, by simp [intOf]; omega⟩
            · have hlt' : ¬ (k : Int) < (wi : Int) := by omega
              have hFC : Fr (fun _ => False) wr wc := ((unhide H9).1.fr.trans (unhide HB) (fun _ _ h => h)).trans (hFL.mono (T := fun j => wr.heap.size ≤ j) (fun j _ h => by
                obtain ⟨o, rfl⟩ := h
                exact (World.ownsRow.lt (unhide H9).1.own j rfl).1)) (fun i hi h => by omega)
              have hKC := (unhide HC).fr _ _ _ (unhide H8).1 hFC
              have HCc := hide (And.intro hKC (And.intro hFC ((unhide H8).2.2.2.1.trans hFC (fun _ _ h => h))))
              clear hFC hKC hFL hI hL hlt hk H9 HB
              go_wp2_with fail
              refine ((unhide HC).leafn _ _ K (unhide HCc).1 hKn).mono ?_
              rintro e wD ⟨rfl, rfl⟩
              obtain ⟨mo2, mc2, wE, hrE, hOE⟩ := (unhide HA).1 wD (unhide HCc).2.2
              have hmE : Sl wE (.slice mo2 ML mc2) m := hOE.sl2 (unhide HA).2.2.1.b (unhide HSN).2
              have HRE := hide hrE
              have HE := hide (And.intro hOE (And.intro hmE ((unhide HC).fr _ _ _ (unhide HCc).1 hOE.fr)))
              clear hrE hOE hmE
              go_wp2_with (at_builtin; refine wpList_app rfl _ _ 24 24 rfl _ _ _ rfl rfl (unhide HRE) ?_)
              refine ((unhide HC).signn _ _ K _ (unhide HE).2.2 hKn).mono ?_
              rintro e wF ⟨rfl, hFF⟩
              have hcF : Fr (fun _ => False) wD wF := (unhide HE).1.fr.trans hFF (fun _ _ h => h)
              have HF := hide (And.intro ((unhide HE).2.1.fr0 hFF) (And.intro hcF ((unhide HA).2.2.1.fr0 ((unhide HCc).2.2.trans hcF (fun _ _ h => h)))))
              clear hFF hcF
              go_wp2_with fail
              refine (same_T (unhide HF).1.s (unhide HF).2.2.s (by rw [(unhide HSN).2]; exact (unhide HA).2.2.2.2.2) (sameB_refl _)).mono ?_
              rintro e wG ⟨rfl, hFG⟩
              have HS := hide ((unhide H8).2.2.2.2.trans ((unhide HCc).2.1.trans ((unhide HF).2.1.trans hFG (fun _ _ h => h)) (fun _ _ h => h)) (fun _ _ h => h))
              clear hFG HF HE
              go_wp2_with fail
              exact ⟨⟨r + 1, by omega, by go_num, unhide HS⟩, by simp [intOf]; omega⟩
        · have hlt' : ¬ (r : Int) < 2 := by omega
          have HS := hide (unhide H8).2.2.2.1
          clear H8
          go_wp2_with fail
          refine ((unhide HC).liv _ (unhide HS)).mono ?_
          rintro e wZ ⟨rfl, hFZ⟩
          have HZ := hide ((unhide HS).trans hFZ (fun _ _ h => h))
          clear hFZ
          go_wp2_with fail
          go_ret
          exact ⟨rfl, unhide HZ⟩
end Go.Proofs.YtjokmlnghpnlbaaDoor

namespace Go.Proofs.YtjokmlnghpnlbaaDoor
open Go.RowKit

set_option maxRecDepth 100000 in
set_option maxHeartbeats 1000000 in
theorem lsigns_Bin (wi H : Nat) (hw1 : 1 ≤ wi) (hw32 : wi ≤ 32) (hH : H ≤ 6) (hp : 8 < wi) (hp2 : ¬ 1 < H) (kk : Nat) (hkk : kk < 2 ^ H) (x mv : Value) (seed m : List Nat) (w : World) (hg : GS w) (hr : GR w) (ht : GT w) (hx : Sl w x seed) (hm : Sl w mv m) (hs : seed.length ≤ 2000000) (hml : m.length ≤ 2000000) :
    Calls Tryd.prog 5 #[.int .i64 wi, .int .i64 H, x, .int .i64 kk, mv] w fun e w' => e = .returned (.bool true) ∧ Fr (fun _ => False) w w' := by
  obtain ⟨xo, xc, rfl⟩ := hx.form
  obtain ⟨mo, mc, rfl⟩ := hm.form
  have hnil : ∀ w' : World, OB w' w' none 0 [] := fun w' => ⟨own_nil _ _, Fr.refl _ _⟩
  obtain ⟨bo, bc, w1, hr1, hO1⟩ := (hnil w).app _ seed hx.s (by simp; omega)
  rw [List.nil_append] at hr1 hO1
  rw [List.length_nil] at hr1
  have happ := fun w' (hf : Fr (fun _ => False) w w') => (hnil w').app _ m (hm.fr0 hf).s (by simp; omega)
  simp only [List.nil_append, List.length_nil] at happ
  have hN64 : 2 ^ H ≤ 64 := Nat.pow_le_pow_right (n := 2) (by decide) hH
  have hN1 : 1 ≤ 2 ^ H := Nat.one_le_two_pow
  have hW := wrap_pow H hH
  have HC := hide (s5_of wi H hw1 hw32 hH _ _ _ seed m w w1 hg hr ht hx hs hm hml hO1.fr (hO1.sl hx.b))
  have hmay := fun w' => g5may_any wi H w'
  rw [decide_eq_true (by omega)] at hmay
  have hmay2 := fun w' => g5may_any wi H w'
  rw [decide_eq_true (by omega)] at hmay2
  have hSZ9 : 16 * wi * wi ≤ 16384 := Nat.mul_le_mul (show 16 * wi ≤ 512 by omega) hw32
  have hhw9 : H * wi ≤ 192 := Nat.mul_le_mul hH hw32
  have hS9 : 16 * wi * wi + H * wi ≤ 20000 := by omega
  have hsb : seed.length ≤ 140737488355328 := by omega
  have hmb : m.length ≤ 140737488355328 := by omega
  generalize KyB wi H seed w1.heap.size = KY at *
  generalize 16 * wi * wi + H * wi = SZ at *
  generalize mth (wi : Int) (lvs wi seed (2 ^ H)) = PB at *
  generalize (fun K => pth wi (lvs wi seed (2 ^ H)) K) = PT at *
  generalize (fun K => sig wi H K seed (sm wi m)) = SG at *
  generalize (fun K => lf (wi : Int) (eN wi seed K)) = LF at *
  generalize lvs wi seed (2 ^ H) = LS at *
  generalize 2 ^ H = N at *
  have HY := hide (And.intro hmay hmay2)
  have HR1 := hide hr1
  have HA := hide (And.intro happ (And.intro hx (And.intro hm (And.intro hO1 (And.intro hsb hmb)))))
  clear hmay hmay2 hx hm hg hr ht hSZ9 hhw9 hsb hmb hr1 hO1 happ hnil
  generalize hSN : seed.length = SN at *
  generalize hML : m.length = ML at *
  have HSN := hide (And.intro hSN hML)
  clear hSN hML
  have hp' : (8 : Int) < (wi : Int) := by omega
  have hp2' : ¬ (1 : Int) < (H : Int) := by omega
  have hk1 : ¬ (kk : Int) < 0 := by omega
  have hk2 : ¬ (N : Int) ≤ (kk : Int) := by omega
  go_enter Tryd.func5, Tryd.ntmps5
  go_wp2_with fail
  refine ((unhide HY).1 _).mono ?_
  rintro e w0 ⟨rfl, rfl⟩
  go_wp2_with (at_builtin; refine wpList_app rfl _ _ 24 24 rfl _ _ _ rfl rfl (unhide HR1) ?_)
  refine (unhide HC).new.mono ?_
  rintro e w2 ⟨kb, rfl, hk2, hF2⟩
  have H2 := hide (And.intro hk2 hF2)
  clear hk2 hF2
  go_wp2_with fail
  refine ((unhide HY).2 _).mono ?_
  rintro e w3 ⟨rfl, rfl⟩
  have hbs : Sl w1 (.slice bo SN bc) seed := (unhide HA).2.2.2.1.sl2 (unhide HA).2.1.b (unhide HSN).1
  have hf3 : Fr (fun _ => False) w0 w3 := (unhide HA).2.2.2.1.fr.trans (unhide H2).2 (fun _ _ h => h)
  have H3 := hide (And.intro (hbs.fr0 (unhide H2).2) (And.intro ((unhide HA).2.1.fr0 hf3) hf3))
  clear hbs hf3
  go_wp2_with fail
  refine (same_T (unhide H3).1.s (unhide H3).2.1.s (by rw [(unhide HSN).1]; exact (unhide HA).2.2.2.2.1) (sameB_refl _)).mono ?_
  rintro e w4 ⟨rfl, hF4⟩
  have H4 := hide (And.intro ((unhide HC).fr _ _ _ (unhide H2).1 hF4) ((unhide H2).2.trans hF4 (fun _ _ h => h)))
  clear hF4
  go_wp2_with fail
  refine ((unhide HC).len _ _ (unhide H4).1).mono ?_
  rintro e w5 ⟨rfl, rfl⟩
  go_wp2_with fail
  go_loopw [14] (fun iv wb => ∃ (k : Nat) (L : List Nat), k ≤ SN ∧ iv = .int .i64 (k : Nat) ∧ L.length = SN ∧ Ow wb w0.heap.size bo bc L ∧ Fr (fun j => ∃ o, bo = some ⟨j, o, none⟩) w5 wb) (fun iv _ => SN - (intOf iv).toNat)
  case atStart => exact ⟨0, seed, Nat.zero_le _, rfl, (unhide HSN).1, (unhide HA).2.2.2.1.ow.fr0 (unhide H4).2, Fr.refl _ _⟩
  case round =>
    rename World => wb
    obtain ⟨k, L, hk, rfl, hL, hI, hFL⟩ := hrel
    by_cases hlt : k < SN
    · have hlt' : (k : Int) < (SN : Int) := by omega
      obtain ⟨pg, rfl⟩ : ∃ pg, bo = some ⟨pg, 0, none⟩ := by
        rcases hI.2 with ⟨_, e⟩ | ⟨pg, cap, cur, e, _⟩
        · omega
        · simp only [Value.slice.injEq] at e
          exact ⟨pg, e.1⟩
      obtain ⟨u, hu⟩ : ∃ u, wb.cell? ⟨pg, k, none⟩ = some u := by
        rw [World.ownsRow.cellAt hI k (by omega), List.getElem?_eq_getElem (by rw [cellsOf_length]; omega)]
        exact ⟨_, rfl⟩
      have hz := hI.fz k
      have hP := hI.set k 99 (by decide)
      have hF2 : Fr (fun j => ∃ o, some (⟨pg, 0, none⟩ : Addr) = some ⟨j, o, none⟩) w5 (wb.setCell ⟨pg, k, none⟩ (.int .u8 99)) := Fr.setCell hFL (p := ⟨pg, k, none⟩) (.inl ⟨0, rfl⟩) _
      have HP := hide (And.intro hP (And.intro hF2 hL))
      clear hP hF2 hL hI hFL
      go_wp2_with fail
      exact ⟨⟨k + 1, _, by omega, by go_num, by rw [List.length_set]; exact (unhide HP).2.2, (unhide HP).1, (unhide HP).2.1⟩, by simp [intOf]; omega⟩
    · have hlt' : ¬ (k : Int) < (SN : Int) := by omega
      have hsb : ∀ j, (∃ o, bo = some ⟨j, o, none⟩) → w0.heap.size ≤ j ∧ j < w1.heap.size := fun j h => by
        obtain ⟨o, rfl⟩ := h
        exact World.ownsRow.lt (unhide HA).2.2.2.1.own j rfl
      have hF0 : Fr (fun _ => False) w0 wb := ((unhide HA).2.2.2.1.fr.trans (unhide H4).2 (fun _ _ h => h)).trans (hFL.mono (T := fun j => w0.heap.size ≤ j) (fun j _ h => (hsb j h).1)) (fun i hi h => by omega)
      have hKb : KY wb kb := (unhide HC).frb _ _ _ _ (unhide H4).1 hFL (fun j h => ⟨(hsb j h).2, (hsb j h).1⟩)
      have H5 := hide (And.intro hKb hF0)
      clear hsb hF0 hKb hFL hI hL hlt hk
      go_wp2_with fail
      refine ((unhide HC).lvs _ (unhide H5).2).mono ?_
      rintro e w6 ⟨ao, cp, us, rfl, hP6, hC6, hF6⟩
      have H6 := hide (And.intro hP6 (And.intro hC6 (And.intro ((unhide HC).fr _ _ _ (unhide H5).1 hF6) ((unhide H5).2.trans hF6 (fun _ _ h => h)))))
      clear hP6 hC6 hF6
      go_wp2_with fail
      refine ((unhide HC).of _ _ us (unhide H6).2.2.2 (unhide H6).1 (unhide H6).2.1).mono ?_
      rintro e w7 ⟨yo, yc, rfl, hS7, hF7⟩
      have H7 := hide (And.intro ((unhide H6).1.fr0 hF7) (And.intro (unhide H6).2.1 (And.intro ((unhide HC).fr _ _ _ (unhide H6).2.2.1 hF7) (And.intro hS7 ((unhide H6).2.2.2.trans hF7 (fun _ _ h => h))))))
      clear hS7 hF7 H6 H5 H4 H3 H2
      go_wp2_with fail
      go_loopw [17] (fun iv wr => ∃ r : Nat, r ≤ 2 ∧ iv = .int .i64 (r : Nat) ∧ Fr (fun _ => False) w7 wr) (fun iv _ => 2 - (intOf iv).toNat)
      case atStart => exact ⟨0, by omega, rfl, Fr.refl _ _⟩
      case round =>
        rename World => wr
        obtain ⟨r, hr2, rfl, hFr⟩ := hrel
        have H8 := hide (And.intro ((unhide HC).fr _ _ _ (unhide H7).2.2.1 hFr) (And.intro ((unhide H7).1.fr0 hFr) (And.intro ((unhide H7).2.2.2.1.fr0 hFr) (And.intro ((unhide H7).2.2.2.2.trans hFr (fun _ _ h => h)) hFr))))
        clear hFr
        by_cases hlt : r < 2
        · have hlt' : (r : Int) < 2 := by omega
          go_wp2_with fail
          refine ((unhide HC).pub _ _ (unhide H8).1).mono ?_
          rintro e wA ⟨po, pc, rfl, hOA⟩
          have H9 := hide (And.intro hOA (hOA.sl2 (unhide HC).pbyt (unhide HC).plen))
          clear hOA
          go_wp2_with fail
          refine (same_T (unhide H9).2.s ((unhide H8).2.2.1.fr0 (unhide H9).1.fr).s (by rw [(unhide HC).plen]; omega) (sameB_refl _)).mono ?_
          rintro e wB ⟨rfl, hFB⟩
          have HB := hide hFB
          clear hFB
          go_wp2_with fail
          go_loopw [19] (fun iv wc => ∃ (k : Nat) (L : List Nat), k ≤ wi ∧ iv = .int .i64 (k : Nat) ∧ L.length = wi ∧ Ow wc wr.heap.size po pc L ∧ Fr (fun j => ∃ o, po = some ⟨j, o, none⟩) wB wc) (fun iv _ => wi - (intOf iv).toNat)
          case atStart => exact ⟨0, PB, Nat.zero_le _, rfl, (unhide HC).plen, (unhide H9).1.ow.fr0 (unhide HB), Fr.refl _ _⟩
          case round =>
            rename World => wc
            obtain ⟨k, L, hk, rfl, hL, hI, hFL⟩ := hrel
            by_cases hlt : k < wi
            · have hlt' : (k : Int) < (wi : Int) := by omega
              obtain ⟨pg, rfl⟩ : ∃ pg, po = some ⟨pg, 0, none⟩ := by
                rcases hI.2 with ⟨_, e⟩ | ⟨pg, cap, cur, e, _⟩
                · omega
                · simp only [Value.slice.injEq] at e
                  exact ⟨pg, e.1⟩
              obtain ⟨u, hu⟩ : ∃ u, wc.cell? ⟨pg, k, none⟩ = some u := by
                rw [World.ownsRow.cellAt hI k (by omega), List.getElem?_eq_getElem (by rw [cellsOf_length]; omega)]
                exact ⟨_, rfl⟩
              have hz := hI.fz k
              have hP := hI.set k 99 (by decide)
              have hF2 : Fr (fun j => ∃ o, some (⟨pg, 0, none⟩ : Addr) = some ⟨j, o, none⟩) wB (wc.setCell ⟨pg, k, none⟩ (.int .u8 99)) := Fr.setCell hFL (p := ⟨pg, k, none⟩) (.inl ⟨0, rfl⟩) _
              have HP := hide (And.intro hP (And.intro hF2 hL))
              clear hP hF2 hL hI hFL
              go_wp2_with fail
              exact ⟨⟨k + 1, _, by omega, by go_num, by rw [List.length_set]; exact (unhide HP).2.2, (unhide HP).1, (unhide HP).2.1⟩, by simp [intOf]; omega⟩
            · have hlt' : ¬ (k : Int) < (wi : Int) := by omega
              have hFC : Fr (fun _ => False) wr wc := ((unhide H9).1.fr.trans (unhide HB) (fun _ _ h => h)).trans (hFL.mono (T := fun j => wr.heap.size ≤ j) (fun j _ h => by
                obtain ⟨o, rfl⟩ := h
                exact (World.ownsRow.lt (unhide H9).1.own j rfl).1)) (fun i hi h => by omega)
              have hKC := (unhide HC).fr _ _ _ (unhide H8).1 hFC
              have HCc := hide (And.intro hKC (And.intro hFC ((unhide H8).2.2.2.1.trans hFC (fun _ _ h => h))))
              clear hFC hKC hFL hI hL hlt hk H9 HB
              go_wp2_with fail
              refine ((unhide HC).leaf _ _ kk (unhide HCc).1 hkk).mono ?_
              rintro e wD ⟨lo, rfl, hOD⟩
              obtain ⟨mo2, mc2, wE, hrE, hOE⟩ := (unhide HA).1 wD ((unhide HCc).2.2.trans hOD.fr (fun _ _ h => h))
              have hmE : Sl wE (.slice mo2 ML mc2) m := hOE.sl2 (unhide HA).2.2.1.b (unhide HSN).2
              have HRE := hide hrE
              have HE := hide (And.intro hOD (And.intro hOE (And.intro hmE ((unhide HC).fr _ _ _ (unhide HCc).1 (hOD.fr.trans hOE.fr (fun _ _ h => h))))))
              clear hrE hOD hOE hmE
              go_wp2_with (at_builtin; refine wpList_app rfl _ _ 24 24 rfl _ _ _ rfl rfl (unhide HRE) ?_)
              refine ((unhide HC).sign _ _ kk _ (unhide HE).2.2.2 (unhide HE).2.2.1 hkk).mono ?_
              rintro e wF ⟨so, sc, rfl, hOF⟩
              have hcF : Fr (fun _ => False) wc wF := (unhide HE).1.fr.trans ((unhide HE).2.1.fr.trans hOF.fr (fun _ _ h => h)) (fun _ _ h => h)
              have HF := hide (And.intro hOF (And.intro ((unhide HE).2.2.1.fr0 hOF.fr) (And.intro hcF ((unhide HA).2.2.1.fr0 ((unhide HCc).2.2.trans hcF (fun _ _ h => h))))))
              clear hOF hcF
              go_wp2_with fail
              refine (same_T (unhide HF).2.1.s (unhide HF).2.2.2.s (by rw [(unhide HSN).2]; exact (unhide HA).2.2.2.2.2) (sameB_refl _)).mono ?_
              rintro e wG ⟨rfl, hFG⟩
              have hcG : Fr (fun _ => False) wc wG := (unhide HF).2.2.1.trans hFG (fun _ _ h => h)
              have hrG : Fr (fun _ => False) wr wG := (unhide HCc).2.1.trans hcG (fun _ _ h => h)
              have hlo : Ow wG wc.heap.size lo wi (LF kk) := (unhide HE).1.ow.fr0 ((unhide HE).2.1.fr.trans ((unhide HF).1.fr.trans hFG (fun _ _ h => h)) (fun _ _ h => h))
              have hso : Ow wG wE.heap.size so sc (SG kk) := (unhide HF).1.ow.fr0 hFG
              have hlb : ∀ j, (∃ o, lo = some ⟨j, o, none⟩) → wc.heap.size ≤ j ∧ j < wD.heap.size := fun j h => by
                obtain ⟨o, rfl⟩ := h
                exact World.ownsRow.lt (unhide HE).1.own j rfl
              have hbb : ∀ j, (∃ o, so = some ⟨j, o, none⟩) → wE.heap.size ≤ j := fun j h => by
                obtain ⟨o, rfl⟩ := h
                exact (World.ownsRow.lt (unhide HF).1.own j rfl).1
              have hDE : wD.heap.size ≤ wE.heap.size := (unhide HE).2.1.fr.size
              have hcD : wc.heap.size ≤ wD.heap.size := (unhide HE).1.fr.size
              have HG := hide (And.intro hcG (And.intro hrG (And.intro hlo (And.intro hso (And.intro ((unhide H8).2.1.fr0 hrG) ((unhide H8).2.2.2.1.trans hrG (fun _ _ h => h)))))))
              have HGB := hide (And.intro hlb (And.intro hbb (And.intro hDE hcD)))
              clear hFG hcG hrG hlo hso hlb hbb hDE hcD HF HE
              go_wp2_with fail
              refine ((unhide HC).path _ _ us kk (unhide HG).2.2.2.2.2 (unhide HG).2.2.2.2.1 (unhide H7).2.1 hkk).mono ?_
              rintro e wH ⟨qo, qn, qc, us2, rfl, hPH, hFH⟩
              have HH := hide (And.intro hPH hFH)
              clear hPH hFH
              go_wp2_with fail
              refine ((unhide HC).with_ _ _ us2 kk ((unhide HG).2.2.2.2.2.trans (unhide HH).2 (fun _ _ h => h)) (unhide HH).1 hkk).mono ?_
              rintro e wI ⟨wo, wcp, rfl, hOI⟩
              have hGI : Fr (fun _ => False) wG wI := (unhide HH).2.trans hOI.fr (fun _ _ h => h)
              have hls := (unhide HC).lsl
              have hla := (unhide HC).lsa kk hkk
              obtain ⟨g, o, v, rfl, hcell, hsrc, h9⟩ := (unhide HG).2.2.2.2.1.cell hGI kk (by omega)
              clear h9
              rw [List.getElem?_eq_getElem (by omega), Option.some.injEq] at hla
              rw [hla] at hsrc
              obtain ⟨vo, vc, rfl⟩ := hsrc.form
              have hll := (unhide HC).llen kk
              rw [hll] at hsrc hcell
              have hwS : Src wI (.slice wo SZ wcp) (SG kk) := (unhide HC).slen kk hkk ▸ hOI.src
              have hsS : Src wI (.slice so SZ sc) (SG kk) := (unhide HC).slen kk hkk ▸ ((unhide HG).2.2.2.1.fr0 hGI).src
              have hlS : Src wI (.slice lo wi wi) (LF kk) := (unhide HC).llen kk ▸ ((unhide HG).2.2.1.fr0 hGI).src
              have HI := hide (And.intro hGI (And.intro hwS (And.intro hsS (And.intro hlS hsrc))))
              clear hGI hwS hsS hlS hsrc hls hla hll hOI HH
              go_wp2_with fail
              refine (same_T (unhide HI).2.2.2.1 (unhide HI).2.2.2.2 (by rw [(unhide HC).llen]; omega) (sameB_refl _)).mono ?_
              rintro e wJ ⟨rfl, hFJ⟩
              have HJ := hide hFJ
              clear hFJ
              go_wp2_with fail
              refine (same_T ((unhide HI).2.2.1.fr0 (unhide HJ)) ((unhide HI).2.1.fr0 (unhide HJ)) (by rw [(unhide HC).slen kk hkk]; omega) (sameB_refl _)).mono ?_
              rintro e wK ⟨rfl, hFK⟩
              have hGK : Fr (fun _ => False) wG wK := (unhide HI).1.trans ((unhide HJ).trans hFK (fun _ _ h => h)) (fun _ _ h => h)
              have HK := hide (And.intro hGK (And.intro ((unhide HG).2.2.1.fr0 hGK) ((unhide HG).2.2.2.1.fr0 hGK)))
              clear hFK hGK HI HJ hcell
              go_wp2_with fail
              go_loopw [26] (fun iv wl => ∃ (k : Nat) (L : List Nat), k ≤ wi ∧ iv = .int .i64 (k : Nat) ∧ L.length = wi ∧ Ow wl wc.heap.size lo wi L ∧ Fr (fun j => ∃ o, lo = some ⟨j, o, none⟩) wK wl) (fun iv _ => wi - (intOf iv).toNat)
              case atStart => exact ⟨0, (LF kk), Nat.zero_le _, rfl, (unhide HC).llen kk, (unhide HK).2.1, Fr.refl _ _⟩
              case round =>
                rename World => wl
                obtain ⟨k, L, hk, rfl, hL, hI, hFL⟩ := hrel
                by_cases hlt : k < wi
                · have hlt' : (k : Int) < (wi : Int) := by omega
                  obtain ⟨pg, rfl⟩ : ∃ pg, lo = some ⟨pg, 0, none⟩ := by
                    rcases hI.2 with ⟨_, e⟩ | ⟨pg, cap, cur, e, _⟩
                    · omega
                    · simp only [Value.slice.injEq] at e
                      exact ⟨pg, e.1⟩
                  obtain ⟨u, hu⟩ : ∃ u, wl.cell? ⟨pg, k, none⟩ = some u := by
                    rw [World.ownsRow.cellAt hI k (by omega), List.getElem?_eq_getElem (by rw [cellsOf_length]; omega)]
                    exact ⟨_, rfl⟩
                  have hz := hI.fz k
                  have hP := hI.set k 99 (by decide)
                  have hF2 : Fr (fun j => ∃ o, some (⟨pg, 0, none⟩ : Addr) = some ⟨j, o, none⟩) wK (wl.setCell ⟨pg, k, none⟩ (.int .u8 99)) := Fr.setCell hFL (p := ⟨pg, k, none⟩) (.inl ⟨0, rfl⟩) _
                  have HP := hide (And.intro hP (And.intro hF2 hL))
                  clear hP hF2 hL hI hFL
                  go_wp2_with fail
                  exact ⟨⟨k + 1, _, by omega, by go_num, by rw [List.length_set]; exact (unhide HP).2.2, (unhide HP).1, (unhide HP).2.1⟩, by simp [intOf]; omega⟩
                · have hlt' : ¬ (k : Int) < (wi : Int) := by omega
                  have hsl : Ow wl wE.heap.size so sc (SG kk) := (unhide HK).2.2.frB hFL (fun g o e h => by
                    have h1 := ((unhide HGB).1 g h).2
                    have h2 := (unhide HGB).2.1 g ⟨o, e⟩
                    have h3 := (unhide HGB).2.2.1
                    omega)
                  have hcl : Fr (fun _ => False) wc wl := ((unhide HG).1.trans (unhide HK).1 (fun _ _ h => h)).trans (hFL.mono (T := fun j => wc.heap.size ≤ j) (fun j _ h => ((unhide HGB).1 j h).1)) (fun i hi h => by omega)
                  have HL := hide (And.intro hsl hcl)
                  clear hsl hcl hFL hI hL hlt hk
                  go_wp2_with fail
                  go_loopw [27] (fun iv ws => ∃ (k : Nat) (L : List Nat), k ≤ SZ ∧ iv = .int .i64 (k : Nat) ∧ L.length = SZ ∧ Ow ws wE.heap.size so sc L ∧ Fr (fun j => ∃ o, so = some ⟨j, o, none⟩) wl ws) (fun iv _ => SZ - (intOf iv).toNat)
                  case atStart => exact ⟨0, (SG kk), Nat.zero_le _, rfl, (unhide HC).slen kk hkk, (unhide HL).1, Fr.refl _ _⟩
                  case round =>
                    rename World => ws
                    obtain ⟨k, L, hk, rfl, hL, hI, hFL⟩ := hrel
                    by_cases hlt : k < SZ
                    · have hlt' : (k : Int) < (SZ : Int) := by omega
                      obtain ⟨pg, rfl⟩ : ∃ pg, so = some ⟨pg, 0, none⟩ := by
                        rcases hI.2 with ⟨_, e⟩ | ⟨pg, cap, cur, e, _⟩
                        · omega
                        · simp only [Value.slice.injEq] at e
                          exact ⟨pg, e.1⟩
                      obtain ⟨u, hu⟩ : ∃ u, ws.cell? ⟨pg, k, none⟩ = some u := by
                        rw [World.ownsRow.cellAt hI k (by omega), List.getElem?_eq_getElem (by rw [cellsOf_length]; omega)]
                        exact ⟨_, rfl⟩
                      have hz := hI.fz k
                      have hP := hI.set k 99 (by decide)
                      have hF2 : Fr (fun j => ∃ o, some (⟨pg, 0, none⟩ : Addr) = some ⟨j, o, none⟩) wl (ws.setCell ⟨pg, k, none⟩ (.int .u8 99)) := Fr.setCell hFL (p := ⟨pg, k, none⟩) (.inl ⟨0, rfl⟩) _
                      have HP := hide (And.intro hP (And.intro hF2 hL))
                      clear hP hF2 hL hI hFL
                      go_wp2_with fail
                      exact ⟨⟨k + 1, _, by omega, by go_num, by rw [List.length_set]; exact (unhide HP).2.2, (unhide HP).1, (unhide HP).2.1⟩, by simp [intOf]; omega⟩
                    · have hlt' : ¬ (k : Int) < (SZ : Int) := by omega
                      have hcs : Fr (fun _ => False) wc ws := (unhide HL).2.trans (hFL.mono (T := fun j => wc.heap.size ≤ j) (fun j _ h => by
                        have h2 := (unhide HGB).2.1 j h
                        have h3 := (unhide HGB).2.2.1
                        have h4 := (unhide HGB).2.2.2
                        omega)) (fun i hi h => by omega)
                      have HS := hide ((unhide H8).2.2.2.2.trans ((unhide HCc).2.1.trans hcs (fun _ _ h => h)) (fun _ _ h => h))
                      clear hcs hFL hI hL hlt hk
                      go_wp2_with fail
                      exact ⟨⟨r + 1, by omega, by go_num, unhide HS⟩, by simp [intOf]; omega⟩
        · have hlt' : ¬ (r : Int) < 2 := by omega
          have HS := hide (unhide H8).2.2.2.1
          clear H8
          go_wp2_with fail
          refine ((unhide HC).liv _ (unhide HS)).mono ?_
          rintro e wZ ⟨rfl, hFZ⟩
          have HZ := hide ((unhide HS).trans hFZ (fun _ _ h => h))
          clear hFZ
          go_wp2_with fail
          go_ret
          exact ⟨rfl, unhide HZ⟩
end Go.Proofs.YtjokmlnghpnlbaaDoor

namespace Go.Proofs.YtjokmlnghpnlbaaDoor
open Go.RowKit

set_option maxRecDepth 100000 in
set_option maxHeartbeats 1000000 in
theorem lsigns_Bneg (wi H : Nat) (hw1 : 1 ≤ wi) (hw32 : wi ≤ 32) (hH : H ≤ 6) (hp : 8 < wi) (hp2 : ¬ 1 < H) (K : Int) (hK : K < 0) (x mv : Value) (seed m : List Nat) (w : World) (hg : GS w) (hr : GR w) (ht : GT w) (hx : Sl w x seed) (hm : Sl w mv m) (hs : seed.length ≤ 2000000) (hml : m.length ≤ 2000000) :
    Calls Tryd.prog 5 #[.int .i64 wi, .int .i64 H, x, .int .i64 K, mv] w fun e w' => e = .returned (.bool true) ∧ Fr (fun _ => False) w w' := by
  obtain ⟨xo, xc, rfl⟩ := hx.form
  obtain ⟨mo, mc, rfl⟩ := hm.form
  have hnil : ∀ w' : World, OB w' w' none 0 [] := fun w' => ⟨own_nil _ _, Fr.refl _ _⟩
  obtain ⟨bo, bc, w1, hr1, hO1⟩ := (hnil w).app _ seed hx.s (by simp; omega)
  rw [List.nil_append] at hr1 hO1
  rw [List.length_nil] at hr1
  have happ := fun w' (hf : Fr (fun _ => False) w w') => (hnil w').app _ m (hm.fr0 hf).s (by simp; omega)
  simp only [List.nil_append, List.length_nil] at happ
  have hN64 : 2 ^ H ≤ 64 := Nat.pow_le_pow_right (n := 2) (by decide) hH
  have hN1 : 1 ≤ 2 ^ H := Nat.one_le_two_pow
  have hW := wrap_pow H hH
  have HC := hide (s5_of wi H hw1 hw32 hH _ _ _ seed m w w1 hg hr ht hx hs hm hml hO1.fr (hO1.sl hx.b))
  have hmay := fun w' => g5may_any wi H w'
  rw [decide_eq_true (by omega)] at hmay
  have hmay2 := fun w' => g5may_any wi H w'
  rw [decide_eq_true (by omega)] at hmay2
  have hSZ9 : 16 * wi * wi ≤ 16384 := Nat.mul_le_mul (show 16 * wi ≤ 512 by omega) hw32
  have hhw9 : H * wi ≤ 192 := Nat.mul_le_mul hH hw32
  have hS9 : 16 * wi * wi + H * wi ≤ 20000 := by omega
  have hsb : seed.length ≤ 140737488355328 := by omega
  have hmb : m.length ≤ 140737488355328 := by omega
  generalize KyB wi H seed w1.heap.size = KY at *
  generalize 16 * wi * wi + H * wi = SZ at *
  generalize mth (wi : Int) (lvs wi seed (2 ^ H)) = PB at *
  generalize (fun K => pth wi (lvs wi seed (2 ^ H)) K) = PT at *
  generalize (fun K => sig wi H K seed (sm wi m)) = SG at *
  generalize (fun K => lf (wi : Int) (eN wi seed K)) = LF at *
  generalize lvs wi seed (2 ^ H) = LS at *
  generalize 2 ^ H = N at *
  have HY := hide (And.intro hmay hmay2)
  have HR1 := hide hr1
  have HA := hide (And.intro happ (And.intro hx (And.intro hm (And.intro hO1 (And.intro hsb hmb)))))
  clear hmay hmay2 hx hm hg hr ht hSZ9 hhw9 hsb hmb hr1 hO1 happ hnil
  generalize hSN : seed.length = SN at *
  generalize hML : m.length = ML at *
  have HSN := hide (And.intro hSN hML)
  clear hSN hML
  have hp' : (8 : Int) < (wi : Int) := by omega
  have hp2' : ¬ (1 : Int) < (H : Int) := by omega
  have hKn : ¬ (0 ≤ K ∧ K < ((N : Nat) : Int)) := by omega
  go_enter Tryd.func5, Tryd.ntmps5
  go_wp2_with fail
  refine ((unhide HY).1 _).mono ?_
  rintro e w0 ⟨rfl, rfl⟩
  go_wp2_with (at_builtin; refine wpList_app rfl _ _ 24 24 rfl _ _ _ rfl rfl (unhide HR1) ?_)
  refine (unhide HC).new.mono ?_
  rintro e w2 ⟨kb, rfl, hk2, hF2⟩
  have H2 := hide (And.intro hk2 hF2)
  clear hk2 hF2
  go_wp2_with fail
  refine ((unhide HY).2 _).mono ?_
  rintro e w3 ⟨rfl, rfl⟩
  have hbs : Sl w1 (.slice bo SN bc) seed := (unhide HA).2.2.2.1.sl2 (unhide HA).2.1.b (unhide HSN).1
  have hf3 : Fr (fun _ => False) w0 w3 := (unhide HA).2.2.2.1.fr.trans (unhide H2).2 (fun _ _ h => h)
  have H3 := hide (And.intro (hbs.fr0 (unhide H2).2) (And.intro ((unhide HA).2.1.fr0 hf3) hf3))
  clear hbs hf3
  go_wp2_with fail
  refine (same_T (unhide H3).1.s (unhide H3).2.1.s (by rw [(unhide HSN).1]; exact (unhide HA).2.2.2.2.1) (sameB_refl _)).mono ?_
  rintro e w4 ⟨rfl, hF4⟩
  have H4 := hide (And.intro ((unhide HC).fr _ _ _ (unhide H2).1 hF4) ((unhide H2).2.trans hF4 (fun _ _ h => h)))
  clear hF4
  go_wp2_with fail
  refine ((unhide HC).len _ _ (unhide H4).1).mono ?_
  rintro e w5 ⟨rfl, rfl⟩
  go_wp2_with fail
  go_loopw [14] (fun iv wb => ∃ (k : Nat) (L : List Nat), k ≤ SN ∧ iv = .int .i64 (k : Nat) ∧ L.length = SN ∧ Ow wb w0.heap.size bo bc L ∧ Fr (fun j => ∃ o, bo = some ⟨j, o, none⟩) w5 wb) (fun iv _ => SN - (intOf iv).toNat)
  case atStart => exact ⟨0, seed, Nat.zero_le _, rfl, (unhide HSN).1, (unhide HA).2.2.2.1.ow.fr0 (unhide H4).2, Fr.refl _ _⟩
  case round =>
    rename World => wb
    obtain ⟨k, L, hk, rfl, hL, hI, hFL⟩ := hrel
    by_cases hlt : k < SN
    · have hlt' : (k : Int) < (SN : Int) := by omega
      obtain ⟨pg, rfl⟩ : ∃ pg, bo = some ⟨pg, 0, none⟩ := by
        rcases hI.2 with ⟨_, e⟩ | ⟨pg, cap, cur, e, _⟩
        · omega
        · simp only [Value.slice.injEq] at e
          exact ⟨pg, e.1⟩
      obtain ⟨u, hu⟩ : ∃ u, wb.cell? ⟨pg, k, none⟩ = some u := by
        rw [World.ownsRow.cellAt hI k (by omega), List.getElem?_eq_getElem (by rw [cellsOf_length]; omega)]
        exact ⟨_, rfl⟩
      have hz := hI.fz k
      have hP := hI.set k 99 (by decide)
      have hF2 : Fr (fun j => ∃ o, some (⟨pg, 0, none⟩ : Addr) = some ⟨j, o, none⟩) w5 (wb.setCell ⟨pg, k, none⟩ (.int .u8 99)) := Fr.setCell hFL (p := ⟨pg, k, none⟩) (.inl ⟨0, rfl⟩) _
      have HP := hide (And.intro hP (And.intro hF2 hL))
      clear hP hF2 hL hI hFL
      go_wp2_with fail
      exact ⟨⟨k + 1, _, by omega, by go_num, by rw [List.length_set]; exact (unhide HP).2.2, (unhide HP).1, (unhide HP).2.1⟩, by simp [intOf]; omega⟩
    · have hlt' : ¬ (k : Int) < (SN : Int) := by omega
      have hsb : ∀ j, (∃ o, bo = some ⟨j, o, none⟩) → w0.heap.size ≤ j ∧ j < w1.heap.size := fun j h => by
        obtain ⟨o, rfl⟩ := h
        exact World.ownsRow.lt (unhide HA).2.2.2.1.own j rfl
      have hF0 : Fr (fun _ => False) w0 wb := ((unhide HA).2.2.2.1.fr.trans (unhide H4).2 (fun _ _ h => h)).trans (hFL.mono (T := fun j => w0.heap.size ≤ j) (fun j _ h => (hsb j h).1)) (fun i hi h => by omega)
      have hKb : KY wb kb := (unhide HC).frb _ _ _ _ (unhide H4).1 hFL (fun j h => ⟨(hsb j h).2, (hsb j h).1⟩)
      have H5 := hide (And.intro hKb hF0)
      clear hsb hF0 hKb hFL hI hL hlt hk
      go_wp2_with fail
      refine ((unhide HC).lvs _ (unhide H5).2).mono ?_
      rintro e w6 ⟨ao, cp, us, rfl, hP6, hC6, hF6⟩
      have H6 := hide (And.intro hP6 (And.intro hC6 (And.intro ((unhide HC).fr _ _ _ (unhide H5).1 hF6) ((unhide H5).2.trans hF6 (fun _ _ h => h)))))
      clear hP6 hC6 hF6
      go_wp2_with fail
      refine ((unhide HC).of _ _ us (unhide H6).2.2.2 (unhide H6).1 (unhide H6).2.1).mono ?_
      rintro e w7 ⟨yo, yc, rfl, hS7, hF7⟩
      have H7 := hide (And.intro ((unhide H6).1.fr0 hF7) (And.intro (unhide H6).2.1 (And.intro ((unhide HC).fr _ _ _ (unhide H6).2.2.1 hF7) (And.intro hS7 ((unhide H6).2.2.2.trans hF7 (fun _ _ h => h))))))
      clear hS7 hF7 H6 H5 H4 H3 H2
      go_wp2_with fail
      go_loopw [17] (fun iv wr => ∃ r : Nat, r ≤ 2 ∧ iv = .int .i64 (r : Nat) ∧ Fr (fun _ => False) w7 wr) (fun iv _ => 2 - (intOf iv).toNat)
      case atStart => exact ⟨0, by omega, rfl, Fr.refl _ _⟩
      case round =>
        rename World => wr
        obtain ⟨r, hr2, rfl, hFr⟩ := hrel
        have H8 := hide (And.intro ((unhide HC).fr _ _ _ (unhide H7).2.2.1 hFr) (And.intro ((unhide H7).1.fr0 hFr) (And.intro ((unhide H7).2.2.2.1.fr0 hFr) (And.intro ((unhide H7).2.2.2.2.trans hFr (fun _ _ h => h)) hFr))))
        clear hFr
        by_cases hlt : r < 2
        · have hlt' : (r : Int) < 2 := by omega
          go_wp2_with fail
          refine ((unhide HC).pub _ _ (unhide H8).1).mono ?_
          rintro e wA ⟨po, pc, rfl, hOA⟩
          have H9 := hide (And.intro hOA (hOA.sl2 (unhide HC).pbyt (unhide HC).plen))
          clear hOA
          go_wp2_with fail
          refine (same_T (unhide H9).2.s ((unhide H8).2.2.1.fr0 (unhide H9).1.fr).s (by rw [(unhide HC).plen]; omega) (sameB_refl _)).mono ?_
          rintro e wB ⟨rfl, hFB⟩
          have HB := hide hFB
          clear hFB
          go_wp2_with fail
          go_loopw [19] (fun iv wc => ∃ (k : Nat) (L : List Nat), k ≤ wi ∧ iv = .int .i64 (k : Nat) ∧ L.length = wi ∧ Ow wc wr.heap.size po pc L ∧ Fr (fun j => ∃ o, po = some ⟨j, o, none⟩) wB wc) (fun iv _ => wi - (intOf iv).toNat)
          case atStart => exact ⟨0, PB, Nat.zero_le _, rfl, (unhide HC).plen, (unhide H9).1.ow.fr0 (unhide HB), Fr.refl _ _⟩
          case round =>
            rename World => wc
            obtain ⟨k, L, hk, rfl, hL, hI, hFL⟩ := hrel
            by_cases hlt : k < wi
            · have hlt' : (k : Int) < (wi : Int) := by omega
              obtain ⟨pg, rfl⟩ : ∃ pg, po = some ⟨pg, 0, none⟩ := by
                rcases hI.2 with ⟨_, e⟩ | ⟨pg, cap, cur, e, _⟩
                · omega
                · simp only [Value.slice.injEq] at e
                  exact ⟨pg, e.1⟩
              obtain ⟨u, hu⟩ : ∃ u, wc.cell? ⟨pg, k, none⟩ = some u := by
                rw [World.ownsRow.cellAt hI k (by omega), List.getElem?_eq_getElem (by rw [cellsOf_length]; omega)]
                exact ⟨_, rfl⟩
              have hz := hI.fz k
              have hP := hI.set k 99 (by decide)
              have hF2 : Fr (fun j => ∃ o, some (⟨pg, 0, none⟩ : Addr) = some ⟨j, o, none⟩) wB (wc.setCell ⟨pg, k, none⟩ (.int .u8 99)) := Fr.setCell hFL (p := ⟨pg, k, none⟩) (.inl ⟨0, rfl⟩) _
              have HP := hide (And.intro hP (And.intro hF2 hL))
              clear hP hF2 hL hI hFL
              go_wp2_with fail
              exact ⟨⟨k + 1, _, by omega, by go_num, by rw [List.length_set]; exact (unhide HP).2.2, (unhide HP).1, (unhide HP).2.1⟩, by simp [intOf]; omega⟩
            · have hlt' : ¬ (k : Int) < (wi : Int) := by omega
              have hFC : Fr (fun _ => False) wr wc := ((unhide H9).1.fr.trans (unhide HB) (fun _ _ h => h)).trans (hFL.mono (T := fun j => wr.heap.size ≤ j) (fun j _ h => by
                obtain ⟨o, rfl⟩ := h
                exact (World.ownsRow.lt (unhide H9).1.own j rfl).1)) (fun i hi h => by omega)
              have hKC := (unhide HC).fr _ _ _ (unhide H8).1 hFC
              have HCc := hide (And.intro hKC (And.intro hFC ((unhide H8).2.2.2.1.trans hFC (fun _ _ h => h))))
              clear hFC hKC hFL hI hL hlt hk H9 HB
              go_wp2_with fail
              refine ((unhide HC).leafn _ _ K (unhide HCc).1 hKn).mono ?_
              rintro e wD ⟨rfl, rfl⟩
              obtain ⟨mo2, mc2, wE, hrE, hOE⟩ := (unhide HA).1 wD (unhide HCc).2.2
              have hmE : Sl wE (.slice mo2 ML mc2) m := hOE.sl2 (unhide HA).2.2.1.b (unhide HSN).2
              have HRE := hide hrE
              have HE := hide (And.intro hOE (And.intro hmE ((unhide HC).fr _ _ _ (unhide HCc).1 hOE.fr)))
              clear hrE hOE hmE
              go_wp2_with (at_builtin; refine wpList_app rfl _ _ 24 24 rfl _ _ _ rfl rfl (unhide HRE) ?_)
              refine ((unhide HC).signn _ _ K _ (unhide HE).2.2 hKn).mono ?_
              rintro e wF ⟨rfl, hFF⟩
              have hcF : Fr (fun _ => False) wD wF := (unhide HE).1.fr.trans hFF (fun _ _ h => h)
              have HF := hide (And.intro ((unhide HE).2.1.fr0 hFF) (And.intro hcF ((unhide HA).2.2.1.fr0 ((unhide HCc).2.2.trans hcF (fun _ _ h => h)))))
              clear hFF hcF
              go_wp2_with fail
              refine (same_T (unhide HF).1.s (unhide HF).2.2.s (by rw [(unhide HSN).2]; exact (unhide HA).2.2.2.2.2) (sameB_refl _)).mono ?_
              rintro e wG ⟨rfl, hFG⟩
              have HS := hide ((unhide H8).2.2.2.2.trans ((unhide HCc).2.1.trans ((unhide HF).2.1.trans hFG (fun _ _ h => h)) (fun _ _ h => h)) (fun _ _ h => h))
              clear hFG HF HE
              go_wp2_with fail
              exact ⟨⟨r + 1, by omega, by go_num, unhide HS⟩, by simp [intOf]; omega⟩
        · have hlt' : ¬ (r : Int) < 2 := by omega
          have HS := hide (unhide H8).2.2.2.1
          clear H8
          go_wp2_with fail
          refine ((unhide HC).liv _ (unhide HS)).mono ?_
          rintro e wZ ⟨rfl, hFZ⟩
          have HZ := hide ((unhide HS).trans hFZ (fun _ _ h => h))
          clear hFZ
          go_wp2_with fail
          go_ret
          exact ⟨rfl, unhide HZ⟩
end Go.Proofs.YtjokmlnghpnlbaaDoor

namespace Go.Proofs.YtjokmlnghpnlbaaDoor
open Go.RowKit

set_option maxRecDepth 100000 in
set_option maxHeartbeats 1000000 in
theorem lsigns_Bbig (wi H : Nat) (hw1 : 1 ≤ wi) (hw32 : wi ≤ 32) (hH : H ≤ 6) (hp : 8 < wi) (hp2 : ¬ 1 < H) (K : Int) (hK : ((2 ^ H : Nat) : Int) ≤ K) (x mv : Value) (seed m : List Nat) (w : World) (hg : GS w) (hr : GR w) (ht : GT w) (hx : Sl w x seed) (hm : Sl w mv m) (hs : seed.length ≤ 2000000) (hml : m.length ≤ 2000000) :
    Calls Tryd.prog 5 #[.int .i64 wi, .int .i64 H, x, .int .i64 K, mv] w fun e w' => e = .returned (.bool true) ∧ Fr (fun _ => False) w w' := by
  obtain ⟨xo, xc, rfl⟩ := hx.form
  obtain ⟨mo, mc, rfl⟩ := hm.form
  have hnil : ∀ w' : World, OB w' w' none 0 [] := fun w' => ⟨own_nil _ _, Fr.refl _ _⟩
  obtain ⟨bo, bc, w1, hr1, hO1⟩ := (hnil w).app _ seed hx.s (by simp; omega)
  rw [List.nil_append] at hr1 hO1
  rw [List.length_nil] at hr1
  have happ := fun w' (hf : Fr (fun _ => False) w w') => (hnil w').app _ m (hm.fr0 hf).s (by simp; omega)
  simp only [List.nil_append, List.length_nil] at happ
  have hN64 : 2 ^ H ≤ 64 := Nat.pow_le_pow_right (n := 2) (by decide) hH
  have hN1 : 1 ≤ 2 ^ H := Nat.one_le_two_pow
  have hW := wrap_pow H hH
  have HC := hide (s5_of wi H hw1 hw32 hH _ _ _ seed m w w1 hg hr ht hx hs hm hml hO1.fr (hO1.sl hx.b))
  have hmay := fun w' => g5may_any wi H w'
  rw [decide_eq_true (by omega)] at hmay
  have hmay2 := fun w' => g5may_any wi H w'
  rw [decide_eq_true (by omega)] at hmay2
  have hSZ9 : 16 * wi * wi ≤ 16384 := Nat.mul_le_mul (show 16 * wi ≤ 512 by omega) hw32
  have hhw9 : H * wi ≤ 192 := Nat.mul_le_mul hH hw32
  have hS9 : 16 * wi * wi + H * wi ≤ 20000 := by omega
  have hsb : seed.length ≤ 140737488355328 := by omega
  have hmb : m.length ≤ 140737488355328 := by omega
  generalize KyB wi H seed w1.heap.size = KY at *
  generalize 16 * wi * wi + H * wi = SZ at *
  generalize mth (wi : Int) (lvs wi seed (2 ^ H)) = PB at *
  generalize (fun K => pth wi (lvs wi seed (2 ^ H)) K) = PT at *
  generalize (fun K => sig wi H K seed (sm wi m)) = SG at *
  generalize (fun K => lf (wi : Int) (eN wi seed K)) = LF at *
  generalize lvs wi seed (2 ^ H) = LS at *
  generalize 2 ^ H = N at *
  have HY := hide (And.intro hmay hmay2)
  have HR1 := hide hr1
  have HA := hide (And.intro happ (And.intro hx (And.intro hm (And.intro hO1 (And.intro hsb hmb)))))
  clear hmay hmay2 hx hm hg hr ht hSZ9 hhw9 hsb hmb hr1 hO1 happ hnil
  generalize hSN : seed.length = SN at *
  generalize hML : m.length = ML at *
  have HSN := hide (And.intro hSN hML)
  clear hSN hML
  have hp' : (8 : Int) < (wi : Int) := by omega
  have hp2' : ¬ (1 : Int) < (H : Int) := by omega
  have hk1 : ¬ K < 0 := by omega
  have hKn : ¬ (0 ≤ K ∧ K < ((N : Nat) : Int)) := by omega
  go_enter Tryd.func5, Tryd.ntmps5
  go_wp2_with fail
  refine ((unhide HY).1 _).mono ?_
  rintro e w0 ⟨rfl, rfl⟩
  go_wp2_with (at_builtin; refine wpList_app rfl _ _ 24 24 rfl _ _ _ rfl rfl (unhide HR1) ?_)
  refine (unhide HC).new.mono ?_
  rintro e w2 ⟨kb, rfl, hk2, hF2⟩
  have H2 := hide (And.intro hk2 hF2)
  clear hk2 hF2
  go_wp2_with fail
  refine ((unhide HY).2 _).mono ?_
  rintro e w3 ⟨rfl, rfl⟩
  have hbs : Sl w1 (.slice bo SN bc) seed := (unhide HA).2.2.2.1.sl2 (unhide HA).2.1.b (unhide HSN).1
  have hf3 : Fr (fun _ => False) w0 w3 := (unhide HA).2.2.2.1.fr.trans (unhide H2).2 (fun _ _ h => h)
  have H3 := hide (And.intro (hbs.fr0 (unhide H2).2) (And.intro ((unhide HA).2.1.fr0 hf3) hf3))
  clear hbs hf3
  go_wp2_with fail
  refine (same_T (unhide H3).1.s (unhide H3).2.1.s (by rw [(unhide HSN).1]; exact (unhide HA).2.2.2.2.1) (sameB_refl _)).mono ?_
  rintro e w4 ⟨rfl, hF4⟩
  have H4 := hide (And.intro ((unhide HC).fr _ _ _ (unhide H2).1 hF4) ((unhide H2).2.trans hF4 (fun _ _ h => h)))
  clear hF4
  go_wp2_with fail
  refine ((unhide HC).len _ _ (unhide H4).1).mono ?_
  rintro e w5 ⟨rfl, rfl⟩
  go_wp2_with fail
  go_loopw [14] (fun iv wb => ∃ (k : Nat) (L : List Nat), k ≤ SN ∧ iv = .int .i64 (k : Nat) ∧ L.length = SN ∧ Ow wb w0.heap.size bo bc L ∧ Fr (fun j => ∃ o, bo = some ⟨j, o, none⟩) w5 wb) (fun iv _ => SN - (intOf iv).toNat)
  case atStart => exact ⟨0, seed, Nat.zero_le _, rfl, (unhide HSN).1, (unhide HA).2.2.2.1.ow.fr0 (unhide H4).2, Fr.refl _ _⟩
  case round =>
    rename World => wb
    obtain ⟨k, L, hk, rfl, hL, hI, hFL⟩ := hrel
    by_cases hlt : k < SN
    · have hlt' : (k : Int) < (SN : Int) := by omega
      obtain ⟨pg, rfl⟩ : ∃ pg, bo = some ⟨pg, 0, none⟩ := by
        rcases hI.2 with ⟨_, e⟩ | ⟨pg, cap, cur, e, _⟩
        · omega
        · simp only [Value.slice.injEq] at e
          exact ⟨pg, e.1⟩
      obtain ⟨u, hu⟩ : ∃ u, wb.cell? ⟨pg, k, none⟩ = some u := by
        rw [World.ownsRow.cellAt hI k (by omega), List.getElem?_eq_getElem (by rw [cellsOf_length]; omega)]
        exact ⟨_, rfl⟩
      have hz := hI.fz k
      have hP := hI.set k 99 (by decide)
      have hF2 : Fr (fun j => ∃ o, some (⟨pg, 0, none⟩ : Addr) = some ⟨j, o, none⟩) w5 (wb.setCell ⟨pg, k, none⟩ (.int .u8 99)) := Fr.setCell hFL (p := ⟨pg, k, none⟩) (.inl ⟨0, rfl⟩) _
      have HP := hide (And.intro hP (And.intro hF2 hL))
      clear hP hF2 hL hI hFL
      go_wp2_with fail
      exact ⟨⟨k + 1, _, by omega, by go_num, by rw [List.length_set]; exact (unhide HP).2.2, (unhide HP).1, (unhide HP).2.1⟩, by simp [intOf]; omega⟩
    · have hlt' : ¬ (k : Int) < (SN : Int) := by omega
      have hsb : ∀ j, (∃ o, bo = some ⟨j, o, none⟩) → w0.heap.size ≤ j ∧ j < w1.heap.size := fun j h => by
        obtain ⟨o, rfl⟩ := h
        exact World.ownsRow.lt (unhide HA).2.2.2.1.own j rfl
      have hF0 : Fr (fun _ => False) w0 wb := ((unhide HA).2.2.2.1.fr.trans (unhide H4).2 (fun _ _ h => h)).trans (hFL.mono (T := fun j => w0.heap.size ≤ j) (fun j _ h => (hsb j h).1)) (fun i hi h => by omega)
      have hKb : KY wb kb := (unhide HC).frb _ _ _ _ (unhide H4).1 hFL (fun j h => ⟨(hsb j h).2, (hsb j h).1⟩)
      have H5 := hide (And.intro hKb hF0)
      clear hsb hF0 hKb hFL hI hL hlt hk
      go_wp2_with fail
      refine ((unhide HC).lvs _ (unhide H5).2).mono ?_
      rintro e w6 ⟨ao, cp, us, rfl, hP6, hC6, hF6⟩
      have H6 := hide (And.intro hP6 (And.intro hC6 (And.intro ((unhide HC).fr _ _ _ (unhide H5).1 hF6) ((unhide H5).2.trans hF6 (fun _ _ h => h)))))
      clear hP6 hC6 hF6
      go_wp2_with fail
      refine ((unhide HC).of _ _ us (unhide H6).2.2.2 (unhide H6).1 (unhide H6).2.1).mono ?_
      rintro e w7 ⟨yo, yc, rfl, hS7, hF7⟩
      have H7 := hide (And.intro ((unhide H6).1.fr0 hF7) (And.intro (unhide H6).2.1 (And.intro ((unhide HC).fr _ _ _ (unhide H6).2.2.1 hF7) (And.intro hS7 ((unhide H6).2.2.2.trans hF7 (fun _ _ h => h))))))
      clear hS7 hF7 H6 H5 H4 H3 H2
      go_wp2_with fail
      go_loopw [17] (fun iv wr => ∃ r : Nat, r ≤ 2 ∧ iv = .int .i64 (r : Nat) ∧ Fr (fun _ => False) w7 wr) (fun iv _ => 2 - (intOf iv).toNat)
      case atStart => exact ⟨0, by omega, rfl, Fr.refl _ _⟩
      case round =>
        rename World => wr
        obtain ⟨r, hr2, rfl, hFr⟩ := hrel
        have H8 := hide (And.intro ((unhide HC).fr _ _ _ (unhide H7).2.2.1 hFr) (And.intro ((unhide H7).1.fr0 hFr) (And.intro ((unhide H7).2.2.2.1.fr0 hFr) (And.intro ((unhide H7).2.2.2.2.trans hFr (fun _ _ h => h)) hFr))))
        clear hFr
        by_cases hlt : r < 2
        · have hlt' : (r : Int) < 2 := by omega
          go_wp2_with fail
          refine ((unhide HC).pub _ _ (unhide H8).1).mono ?_
          rintro e wA ⟨po, pc, rfl, hOA⟩
          have H9 := hide (And.intro hOA (hOA.sl2 (unhide HC).pbyt (unhide HC).plen))
          clear hOA
          go_wp2_with fail
          refine (same_T (unhide H9).2.s ((unhide H8).2.2.1.fr0 (unhide H9).1.fr).s (by rw [(unhide HC).plen]; omega) (sameB_refl _)).mono ?_
          rintro e wB ⟨rfl, hFB⟩
          have HB := hide hFB
          clear hFB
          go_wp2_with fail
          go_loopw [19] (fun iv wc => ∃ (k : Nat) (L : List Nat), k ≤ wi ∧ iv = .int .i64 (k : Nat) ∧ L.length = wi ∧ Ow wc wr.heap.size po pc L ∧ Fr (fun j => ∃ o, po = some ⟨j, o, none⟩) wB wc) (fun iv _ => wi - (intOf iv).toNat)
          case atStart => exact ⟨0, PB, Nat.zero_le _, rfl, (unhide HC).plen, (unhide H9).1.ow.fr0 (unhide HB), Fr.refl _ _⟩
          case round =>
            rename World => wc
            obtain ⟨k, L, hk, rfl, hL, hI, hFL⟩ := hrel
            by_cases hlt : k < wi
            · have hlt' : (k : Int) < (wi : Int) := by omega
              obtain ⟨pg, rfl⟩ : ∃ pg, po = some ⟨pg, 0, none⟩ := by
                rcases hI.2 with ⟨_, e⟩ | ⟨pg, cap, cur, e, _⟩
                · omega
                · simp only [Value.slice.injEq] at e
                  exact ⟨pg, e.1⟩
              obtain ⟨u, hu⟩ : ∃ u, wc.cell? ⟨pg, k, none⟩ = some u := by
                rw [World.ownsRow.cellAt hI k (by omega), List.getElem?_eq_getElem (by rw [cellsOf_length]; omega)]
                exact ⟨_, rfl⟩
              have hz := hI.fz k
              have hP := hI.set k 99 (by decide)
              have hF2 : Fr (fun j => ∃ o, some (⟨pg, 0, none⟩ : Addr) = some ⟨j, o, none⟩) wB (wc.setCell ⟨pg, k, none⟩ (.int .u8 99)) := Fr.setCell hFL (p := ⟨pg, k, none⟩) (.inl ⟨0, rfl⟩) _
              have HP := hide (And.intro hP (And.intro hF2 hL))
              clear hP hF2 hL hI hFL
              go_wp2_with fail
              exact ⟨⟨k + 1, _, by omega, by go_num, by rw [List.length_set]; exact (unhide HP).2.2, (unhide HP).1, (unhide HP).2.1⟩, by simp [intOf]; omega⟩
            · have hlt' : ¬ (k : Int) < (wi : Int) := by omega
              have hFC : Fr (fun _ => False) wr wc := ((unhide H9).1.fr.trans (unhide HB) (fun _ _ h => h)).trans (hFL.mono (T := fun j => wr.heap.size ≤ j) (fun j _ h => by
                obtain ⟨o, rfl⟩ := h
                exact (World.ownsRow.lt (unhide H9).1.own j rfl).1)) (fun i hi h => by omega)
              have hKC := (unhide HC).fr _ _ _ (unhide H8).1 hFC
              have HCc := hide (And.intro hKC (And.intro hFC ((unhide H8).2.2.2.1.trans hFC (fun _ _ h => h))))
              clear hFC hKC hFL hI hL hlt hk H9 HB
              go_wp2_with fail
              refine ((unhide HC).leafn _ _ K (unhide HCc).1 hKn).mono ?_
              rintro e wD ⟨rfl, rfl⟩
              obtain ⟨mo2, mc2, wE, hrE, hOE⟩ := (unhide HA).1 wD (unhide HCc).2.2
              have hmE : Sl wE (.slice mo2 ML mc2) m := hOE.sl2 (unhide HA).2.2.1.b (unhide HSN).2
              have HRE := hide hrE
              have HE := hide (And.intro hOE (And.intro hmE ((unhide HC).fr _ _ _ (unhide HCc).1 hOE.fr)))
              clear hrE hOE hmE
              go_wp2_with (at_builtin; refine wpList_app rfl _ _ 24 24 rfl _ _ _ rfl rfl (unhide HRE) ?_)
              refine ((unhide HC).signn _ _ K _ (unhide HE).2.2 hKn).mono ?_
              rintro e wF ⟨rfl, hFF⟩
              have hcF : Fr (fun _ => False) wD wF := (unhide HE).1.fr.trans hFF (fun _ _ h => h)
              have HF := hide (And.intro ((unhide HE).2.1.fr0 hFF) (And.intro hcF ((unhide HA).2.2.1.fr0 ((unhide HCc).2.2.trans hcF (fun _ _ h => h)))))
              clear hFF hcF
              go_wp2_with fail
              refine (same_T (unhide HF).1.s (unhide HF).2.2.s (by rw [(unhide HSN).2]; exact (unhide HA).2.2.2.2.2) (sameB_refl _)).mono ?_
              rintro e wG ⟨rfl, hFG⟩
              have HS := hide ((unhide H8).2.2.2.2.trans ((unhide HCc).2.1.trans ((unhide HF).2.1.trans hFG (fun _ _ h => h)) (fun _ _ h => h)) (fun _ _ h => h))
              clear hFG HF HE
              go_wp2_with fail
              exact ⟨⟨r + 1, by omega, by go_num, unhide HS⟩, by simp [intOf]; omega⟩
        · have hlt' : ¬ (r : Int) < 2 := by omega
          have HS := hide (unhide H8).2.2.2.1
          clear H8
          go_wp2_with fail
          refine ((unhide HC).liv _ (unhide HS)).mono ?_
          rintro e wZ ⟨rfl, hFZ⟩
          have HZ := hide ((unhide HS).trans hFZ (fun _ _ h => h))
          clear hFZ
          go_wp2_with fail
          go_ret
          exact ⟨rfl, unhide HZ⟩
end Go.Proofs.YtjokmlnghpnlbaaDoor

namespace Go.Proofs.YtjokmlnghpnlbaaDoor
open Go.RowKit

set_option maxRecDepth 100000 in
set_option maxHeartbeats 1000000 in
theorem lsigns_Cin (wi t : Nat) (hw32 : wi ≤ 32) (hH : t ≤ 6) (hp : 8 < wi) (hp2 : 1 < t) (kk : Nat) (hkk : kk < 2) (x mv : Value) (seed m : List Nat) (w : World) (hg : GS w) (hr : GR w) (ht : GT w) (hx : Sl w x seed) (hm : Sl w mv m) (hs : seed.length ≤ 2000000) (hml : m.length ≤ 2000000) :
    Calls Tryd.prog 5 #[.int .i64 wi, .int .i64 t, x, .int .i64 kk, mv] w fun e w' => e = .returned (.bool true) ∧ Fr (fun _ => False) w w' := by
  obtain ⟨xo, xc, rfl⟩ := hx.form
  obtain ⟨mo, mc, rfl⟩ := hm.form
  have hnil : ∀ w' : World, OB w' w' none 0 [] := fun w' => ⟨own_nil _ _, Fr.refl _ _⟩
  obtain ⟨bo, bc, w1, hr1, hO1⟩ := (hnil w).app _ seed hx.s (by simp; omega)
  rw [List.nil_append] at hr1 hO1
  rw [List.length_nil] at hr1
  have happ := fun w' (hf : Fr (fun _ => False) w w') => (hnil w').app _ m (hm.fr0 hf).s (by simp; omega)
  simp only [List.nil_append, List.length_nil] at happ
  have HC : Hid (S5 w w1 wi 1 (.slice bo seed.length bc) (.slice xo seed.length xc) (.slice mo m.length mc) m (KyB wi 1 seed w1.heap.size) 2 (16 * wi * wi + 1 * wi) (mth wi (lvs wi seed 2)) (fun K => sig wi 1 K seed (sm wi m)) (fun K => lf wi (eN wi seed K)) (lvs wi seed 2) (fun K => pth wi (lvs wi seed 2) K)) := hide (s5_of wi 1 (by omega) hw32 (by decide) _ _ _ seed m w w1 hg hr ht hx hs hm hml hO1.fr (hO1.sl hx.b))
  have hmay := fun w' => g5may_any wi t w'
  rw [decide_eq_true (by omega)] at hmay
  have hmay2 := fun w' => g5may_any wi 1 w'
  rw [decide_eq_true (by omega)] at hmay2
  have hSZ9 : 16 * wi * wi ≤ 16384 := Nat.mul_le_mul (show 16 * wi ≤ 512 by omega) hw32
  have hS9 : 16 * wi * wi + 1 * wi ≤ 20000 := by omega
  have hsb : seed.length ≤ 140737488355328 := by omega
  have hmb : m.length ≤ 140737488355328 := by omega
  generalize KyB wi 1 seed w1.heap.size = KY at *
  generalize 16 * wi * wi + 1 * wi = SZ at *
  generalize mth (wi : Int) (lvs wi seed 2) = PB at *
  generalize (fun K => pth wi (lvs wi seed 2) K) = PT at *
  generalize (fun K => sig wi 1 K seed (sm wi m)) = SG at *
  generalize (fun K => lf (wi : Int) (eN wi seed K)) = LF at *
  generalize lvs wi seed 2 = LS at *
  have HY := hide (And.intro hmay hmay2)
  have HR1 := hide hr1
  have HA := hide (And.intro happ (And.intro hx (And.intro hm (And.intro hO1 (And.intro hsb hmb)))))
  clear hmay hmay2 hx hm hg hr ht hSZ9 hsb hmb hr1 hO1 happ hnil
  generalize hSN : seed.length = SN at *
  generalize hML : m.length = ML at *
  have HSN := hide (And.intro hSN hML)
  clear hSN hML
  have hp' : (8 : Int) < (wi : Int) := by omega
  have hp2' : (1 : Int) < (t : Int) := by omega
  have hw1 : 1 ≤ wi := by omega
  have hk1 : ¬ (kk : Int) < 0 := by omega
  have hk2 : ¬ (2 : Int) ≤ (kk : Int) := by omega
  go_enter Tryd.func5, Tryd.ntmps5
  go_wp2_with fail
  refine ((unhide HY).1 _).mono ?_
  rintro e w0 ⟨rfl, rfl⟩
  go_wp2_with (at_builtin; refine wpList_app rfl _ _ 24 24 rfl _ _ _ rfl rfl (unhide HR1) ?_)
  refine (unhide HC).new.mono ?_
  rintro e w2 ⟨kb, rfl, hk2, hF2⟩
  have H2 := hide (And.intro hk2 hF2)
  clear hk2 hF2
  go_wp2_with fail
  refine ((unhide HY).2 _).mono ?_
  rintro e w3 ⟨rfl, rfl⟩
  have hbs : Sl w1 (.slice bo SN bc) seed := (unhide HA).2.2.2.1.sl2 (unhide HA).2.1.b (unhide HSN).1
  have hf3 : Fr (fun _ => False) w0 w3 := (unhide HA).2.2.2.1.fr.trans (unhide H2).2 (fun _ _ h => h)
  have H3 := hide (And.intro (hbs.fr0 (unhide H2).2) (And.intro ((unhide HA).2.1.fr0 hf3) hf3))
  clear hbs hf3
  go_wp2_with fail
  refine (same_T (unhide H3).1.s (unhide H3).2.1.s (by rw [(unhide HSN).1]; exact (unhide HA).2.2.2.2.1) (sameB_refl _)).mono ?_
  rintro e w4 ⟨rfl, hF4⟩
  have H4 := hide (And.intro ((unhide HC).fr _ _ _ (unhide H2).1 hF4) ((unhide H2).2.trans hF4 (fun _ _ h => h)))
  clear hF4
  go_wp2_with fail
  refine ((unhide HC).len _ _ (unhide H4).1).mono ?_
  rintro e w5 ⟨rfl, rfl⟩
  go_wp2_with fail
  go_loopw [14] (fun iv wb => ∃ (k : Nat) (L : List Nat), k ≤ SN ∧ iv = .int .i64 (k : Nat) ∧ L.length = SN ∧ Ow wb w0.heap.size bo bc L ∧ Fr (fun j => ∃ o, bo = some ⟨j, o, none⟩) w5 wb) (fun iv _ => SN - (intOf iv).toNat)
  case atStart => exact ⟨0, seed, Nat.zero_le _, rfl, (unhide HSN).1, (unhide HA).2.2.2.1.ow.fr0 (unhide H4).2, Fr.refl _ _⟩
  case round =>
    rename World => wb
    obtain ⟨k, L, hk, rfl, hL, hI, hFL⟩ := hrel
    by_cases hlt : k < SN
    · have hlt' : (k : Int) < (SN : Int) := by omega
      obtain ⟨pg, rfl⟩ : ∃ pg, bo = some ⟨pg, 0, none⟩ := by
        rcases hI.2 with ⟨_, e⟩ | ⟨pg, cap, cur, e, _⟩
        · omega
        · simp only [Value.slice.injEq] at e
          exact ⟨pg, e.1⟩
      obtain ⟨u, hu⟩ : ∃ u, wb.cell? ⟨pg, k, none⟩ = some u := by
        rw [World.ownsRow.cellAt hI k (by omega), List.getElem?_eq_getElem (by rw [cellsOf_length]; omega)]
        exact ⟨_, rfl⟩
      have hz := hI.fz k
      have hP := hI.set k 99 (by decide)
      have hF2 : Fr (fun j => ∃ o, some (⟨pg, 0, none⟩ : Addr) = some ⟨j, o, none⟩) w5 (wb.setCell ⟨pg, k, none⟩ (.int .u8 99)) := Fr.setCell hFL (p := ⟨pg, k, none⟩) (.inl ⟨0, rfl⟩) _
      have HP := hide (And.intro hP (And.intro hF2 hL))
      clear hP hF2 hL hI hFL
      go_wp2_with fail
      exact ⟨⟨k + 1, _, by omega, by go_num, by rw [List.length_set]; exact (unhide HP).2.2, (unhide HP).1, (unhide HP).2.1⟩, by simp [intOf]; omega⟩
    · have hlt' : ¬ (k : Int) < (SN : Int) := by omega
      have hsb : ∀ j, (∃ o, bo = some ⟨j, o, none⟩) → w0.heap.size ≤ j ∧ j < w1.heap.size := fun j h => by
        obtain ⟨o, rfl⟩ := h
        exact World.ownsRow.lt (unhide HA).2.2.2.1.own j rfl
      have hF0 : Fr (fun _ => False) w0 wb := ((unhide HA).2.2.2.1.fr.trans (unhide H4).2 (fun _ _ h => h)).trans (hFL.mono (T := fun j => w0.heap.size ≤ j) (fun j _ h => (hsb j h).1)) (fun i hi h => by omega)
      have hKb : KY wb kb := (unhide HC).frb _ _ _ _ (unhide H4).1 hFL (fun j h => ⟨(hsb j h).2, (hsb j h).1⟩)
      have H5 := hide (And.intro hKb hF0)
      clear hsb hF0 hKb hFL hI hL hlt hk
      go_wp2_with fail
      refine ((unhide HC).lvs _ (unhide H5).2).mono ?_
      rintro e w6 ⟨ao, cp, us, rfl, hP6, hC6, hF6⟩
      have H6 := hide (And.intro hP6 (And.intro hC6 (And.intro ((unhide HC).fr _ _ _ (unhide H5).1 hF6) ((unhide H5).2.trans hF6 (fun _ _ h => h)))))
      clear hP6 hC6 hF6
      go_wp2_with fail
      refine ((unhide HC).of _ _ us (unhide H6).2.2.2 (unhide H6).1 (unhide H6).2.1).mono ?_
      rintro e w7 ⟨yo, yc, rfl, hS7, hF7⟩
      have H7 := hide (And.intro ((unhide H6).1.fr0 hF7) (And.intro (unhide H6).2.1 (And.intro ((unhide HC).fr _ _ _ (unhide H6).2.2.1 hF7) (And.intro hS7 ((unhide H6).2.2.2.trans hF7 (fun _ _ h => h))))))
      clear hS7 hF7 H6 H5 H4 H3 H2
      go_wp2_with fail
      go_loopw [17] (fun iv wr => ∃ r : Nat, r ≤ 2 ∧ iv = .int .i64 (r : Nat) ∧ Fr (fun _ => False) w7 wr) (fun iv _ => 2 - (intOf iv).toNat)
      case atStart => exact ⟨0, by omega, rfl, Fr.refl _ _⟩
      case round =>
        rename World => wr
        obtain ⟨r, hr2, rfl, hFr⟩ := hrel
        have H8 := hide (And.intro ((unhide HC).fr _ _ _ (unhide H7).2.2.1 hFr) (And.intro ((unhide H7).1.fr0 hFr) (And.intro ((unhide H7).2.2.2.1.fr0 hFr) (And.intro ((unhide H7).2.2.2.2.trans hFr (fun _ _ h => h)) hFr))))
        clear hFr
        by_cases hlt : r < 2
        · have hlt' : (r : Int) < 2 := by omega
          go_wp2_with fail
          refine ((unhide HC).pub _ _ (unhide H8).1).mono ?_
          rintro e wA ⟨po, pc, rfl, hOA⟩
          have H9 := hide (And.intro hOA (hOA.sl2 (unhide HC).pbyt (unhide HC).plen))
          clear hOA
          go_wp2_with fail
          refine (same_T (unhide H9).2.s ((unhide H8).2.2.1.fr0 (unhide H9).1.fr).s (by rw [(unhide HC).plen]; omega) (sameB_refl _)).mono ?_
          rintro e wB ⟨rfl, hFB⟩
          have HB := hide hFB
          clear hFB
          go_wp2_with fail
          go_loopw [19] (fun iv wc => ∃ (k : Nat) (L : List Nat), k ≤ wi ∧ iv = .int .i64 (k : Nat) ∧ L.length = wi ∧ Ow wc wr.heap.size po pc L ∧ Fr (fun j => ∃ o, po = some ⟨j, o, none⟩) wB wc) (fun iv _ => wi - (intOf iv).toNat)
          case atStart => exact ⟨0, PB, Nat.zero_le _, rfl, (unhide HC).plen, (unhide H9).1.ow.fr0 (unhide HB), Fr.refl _ _⟩
          case round =>
            rename World => wc
            obtain ⟨k, L, hk, rfl, hL, hI, hFL⟩ := hrel
            by_cases hlt : k < wi
            · have hlt' : (k : Int) < (wi : Int) := by omega
              obtain ⟨pg, rfl⟩ : ∃ pg, po = some ⟨pg, 0, none⟩ := by
                rcases hI.2 with ⟨_, e⟩ | ⟨pg, cap, cur, e, _⟩
                · omega
                · simp only [Value.slice.injEq] at e
                  exact ⟨pg, e.1⟩
              obtain ⟨u, hu⟩ : ∃ u, wc.cell? ⟨pg, k, none⟩ = some u := by
                rw [World.ownsRow.cellAt hI k (by omega), List.getElem?_eq_getElem (by rw [cellsOf_length]; omega)]
                exact ⟨_, rfl⟩
              have hz := hI.fz k
              have hP := hI.set k 99 (by decide)
              have hF2 : Fr (fun j => ∃ o, some (⟨pg, 0, none⟩ : Addr) = some ⟨j, o, none⟩) wB (wc.setCell ⟨pg, k, none⟩ (.int .u8 99)) := Fr.setCell hFL (p := ⟨pg, k, none⟩) (.inl ⟨0, rfl⟩) _
              have HP := hide (And.intro hP (And.intro hF2 hL))
              clear hP hF2 hL hI hFL
              go_wp2_with fail
              exact ⟨⟨k + 1, _, by omega, by go_num, by rw [List.length_set]; exact (unhide HP).2.2, (unhide HP).1, (unhide HP).2.1⟩, by simp [intOf]; omega⟩
            · have hlt' : ¬ (k : Int) < (wi : Int) := by omega
              have hFC : Fr (fun _ => False) wr wc := ((unhide H9).1.fr.trans (unhide HB) (fun _ _ h => h)).trans (hFL.mono (T := fun j => wr.heap.size ≤ j) (fun j _ h => by
                obtain ⟨o, rfl⟩ := h
                exact (World.ownsRow.lt (unhide H9).1.own j rfl).1)) (fun i hi h => by omega)
              have hKC := (unhide HC).fr _ _ _ (unhide H8).1 hFC
              have HCc := hide (And.intro hKC (And.intro hFC ((unhide H8).2.2.2.1.trans hFC (fun _ _ h => h))))
              clear hFC hKC hFL hI hL hlt hk H9 HB
              go_wp2_with fail
              refine ((unhide HC).leaf _ _ kk (unhide HCc).1 hkk).mono ?_
              rintro e wD ⟨lo, rfl, hOD⟩
              obtain ⟨mo2, mc2, wE, hrE, hOE⟩ := (unhide HA).1 wD ((unhide HCc).2.2.trans hOD.fr (fun _ _ h => h))
              have hmE : Sl wE (.slice mo2 ML mc2) m := hOE.sl2 (unhide HA).2.2.1.b (unhide HSN).2
              have HRE := hide hrE
              have HE := hide (And.intro hOD (And.intro hOE (And.intro hmE ((unhide HC).fr _ _ _ (unhide HCc).1 (hOD.fr.trans hOE.fr (fun _ _ h => h))))))
              clear hrE hOD hOE hmE
              go_wp2_with (at_builtin; refine wpList_app rfl _ _ 24 24 rfl _ _ _ rfl rfl (unhide HRE) ?_)
              refine ((unhide HC).sign _ _ kk _ (unhide HE).2.2.2 (unhide HE).2.2.1 hkk).mono ?_
              rintro e wF ⟨so, sc, rfl, hOF⟩
              have hcF : Fr (fun _ => False) wc wF := (unhide HE).1.fr.trans ((unhide HE).2.1.fr.trans hOF.fr (fun _ _ h => h)) (fun _ _ h => h)
              have HF := hide (And.intro hOF (And.intro ((unhide HE).2.2.1.fr0 hOF.fr) (And.intro hcF ((unhide HA).2.2.1.fr0 ((unhide HCc).2.2.trans hcF (fun _ _ h => h))))))
              clear hOF hcF
              go_wp2_with fail
              refine (same_T (unhide HF).2.1.s (unhide HF).2.2.2.s (by rw [(unhide HSN).2]; exact (unhide HA).2.2.2.2.2) (sameB_refl _)).mono ?_
              rintro e wG ⟨rfl, hFG⟩
              have hcG : Fr (fun _ => False) wc wG := (unhide HF).2.2.1.trans hFG (fun _ _ h => h)
              have hrG : Fr (fun _ => False) wr wG := (unhide HCc).2.1.trans hcG (fun _ _ h => h)
              have hlo : Ow wG wc.heap.size lo wi (LF kk) := (unhide HE).1.ow.fr0 ((unhide HE).2.1.fr.trans ((unhide HF).1.fr.trans hFG (fun _ _ h => h)) (fun _ _ h => h))
              have hso : Ow wG wE.heap.size so sc (SG kk) := (unhide HF).1.ow.fr0 hFG
              have hlb : ∀ j, (∃ o, lo = some ⟨j, o, none⟩) → wc.heap.size ≤ j ∧ j < wD.heap.size := fun j h => by
                obtain ⟨o, rfl⟩ := h
                exact World.ownsRow.lt (unhide HE).1.own j rfl
              have hbb : ∀ j, (∃ o, so = some ⟨j, o, none⟩) → wE.heap.size ≤ j := fun j h => by
                obtain ⟨o, rfl⟩ := h
                exact (World.ownsRow.lt (unhide HF).1.own j rfl).1
              have hDE : wD.heap.size ≤ wE.heap.size := (unhide HE).2.1.fr.size
              have hcD : wc.heap.size ≤ wD.heap.size := (unhide HE).1.fr.size
              have HG := hide (And.intro hcG (And.intro hrG (And.intro hlo (And.intro hso (And.intro ((unhide H8).2.1.fr0 hrG) ((unhide H8).2.2.2.1.trans hrG (fun _ _ h => h)))))))
              have HGB := hide (And.intro hlb (And.intro hbb (And.intro hDE hcD)))
              clear hFG hcG hrG hlo hso hlb hbb hDE hcD HF HE
              go_wp2_with fail
              refine ((unhide HC).path _ _ us kk (unhide HG).2.2.2.2.2 (unhide HG).2.2.2.2.1 (unhide H7).2.1 hkk).mono ?_
              rintro e wH ⟨qo, qn, qc, us2, rfl, hPH, hFH⟩
              have HH := hide (And.intro hPH hFH)
              clear hPH hFH
              go_wp2_with fail
              refine ((unhide HC).with_ _ _ us2 kk ((unhide HG).2.2.2.2.2.trans (unhide HH).2 (fun _ _ h => h)) (unhide HH).1 hkk).mono ?_
              rintro e wI ⟨wo, wcp, rfl, hOI⟩
              have hGI : Fr (fun _ => False) wG wI := (unhide HH).2.trans hOI.fr (fun _ _ h => h)
              have hls := (unhide HC).lsl
              have hla := (unhide HC).lsa kk hkk
              obtain ⟨g, o, v, rfl, hcell, hsrc, h9⟩ := (unhide HG).2.2.2.2.1.cell hGI kk (by omega)
              clear h9
              rw [List.getElem?_eq_getElem (by omega), Option.some.injEq] at hla
              rw [hla] at hsrc
              obtain ⟨vo, vc, rfl⟩ := hsrc.form
              have hll := (unhide HC).llen kk
              rw [hll] at hsrc hcell
              have hwS : Src wI (.slice wo SZ wcp) (SG kk) := (unhide HC).slen kk hkk ▸ hOI.src
              have hsS : Src wI (.slice so SZ sc) (SG kk) := (unhide HC).slen kk hkk ▸ ((unhide HG).2.2.2.1.fr0 hGI).src
              have hlS : Src wI (.slice lo wi wi) (LF kk) := (unhide HC).llen kk ▸ ((unhide HG).2.2.1.fr0 hGI).src
              have HI := hide (And.intro hGI (And.intro hwS (And.intro hsS (And.intro hlS hsrc))))
              clear hGI hwS hsS hlS hsrc hls hla hll hOI HH
              go_wp2_with fail
              refine (same_T (unhide HI).2.2.2.1 (unhide HI).2.2.2.2 (by rw [(unhide HC).llen]; omega) (sameB_refl _)).mono ?_
              rintro e wJ ⟨rfl, hFJ⟩
              have HJ := hide hFJ
              clear hFJ
              go_wp2_with fail
              refine (same_T ((unhide HI).2.2.1.fr0 (unhide HJ)) ((unhide HI).2.1.fr0 (unhide HJ)) (by rw [(unhide HC).slen kk hkk]; omega) (sameB_refl _)).mono ?_
              rintro e wK ⟨rfl, hFK⟩
              have hGK : Fr (fun _ => False) wG wK := (unhide HI).1.trans ((unhide HJ).trans hFK (fun _ _ h => h)) (fun _ _ h => h)
              have HK := hide (And.intro hGK (And.intro ((unhide HG).2.2.1.fr0 hGK) ((unhide HG).2.2.2.1.fr0 hGK)))
              clear hFK hGK HI HJ hcell
              go_wp2_with fail
              go_loopw [26] (fun iv wl => ∃ (k : Nat) (L : List Nat), k ≤ wi ∧ iv = .int .i64 (k : Nat) ∧ L.length = wi ∧ Ow wl wc.heap.size lo wi L ∧ Fr (fun j => ∃ o, lo = some ⟨j, o, none⟩) wK wl) (fun iv _ => wi - (intOf iv).toNat)
              case atStart => exact ⟨0, (LF kk), Nat.zero_le _, rfl, (unhide HC).llen kk, (unhide HK).2.1, Fr.refl _ _⟩
              case round =>
                rename World => wl
                obtain ⟨k, L, hk, rfl, hL, hI, hFL⟩ := hrel
                by_cases hlt : k < wi
                · have hlt' : (k : Int) < (wi : Int) := by omega
                  obtain ⟨pg, rfl⟩ : ∃ pg, lo = some ⟨pg, 0, none⟩ := by
                    rcases hI.2 with ⟨_, e⟩ | ⟨pg, cap, cur, e, _⟩
                    · omega
                    · simp only [Value.slice.injEq] at e
                      exact ⟨pg, e.1⟩
                  obtain ⟨u, hu⟩ : ∃ u, wl.cell? ⟨pg, k, none⟩ = some u := by
                    rw [World.ownsRow.cellAt hI k (by omega), List.getElem?_eq_getElem (by rw [cellsOf_length]; omega)]
                    exact ⟨_, rfl⟩
                  have hz := hI.fz k
                  have hP := hI.set k 99 (by decide)
                  have hF2 : Fr (fun j => ∃ o, some (⟨pg, 0, none⟩ : Addr) = some ⟨j, o, none⟩) wK (wl.setCell ⟨pg, k, none⟩ (.int .u8 99)) := Fr.setCell hFL (p := ⟨pg, k, none⟩) (.inl ⟨0, rfl⟩) _
                  have HP := hide (And.intro hP (And.intro hF2 hL))
                  clear hP hF2 hL hI hFL
                  go_wp2_with fail
                  exact ⟨⟨k + 1, _, by omega, by go_num, by rw [List.length_set]; exact (unhide HP).2.2, (unhide HP).1, (unhide HP).2.1⟩, by simp [intOf]; omega⟩
                · have hlt' : ¬ (k : Int) < (wi : Int) := by omega
                  have hsl : Ow wl wE.heap.size so sc (SG kk) := (unhide HK).2.2.frB hFL (fun g o e h => by
                    have h1 := ((unhide HGB).1 g h).2
                    have h2 := (unhide HGB).2.1 g ⟨o, e⟩
                    have h3 := (unhide HGB).2.2.1
                    omega)
                  have hcl : Fr (fun _ => False) wc wl := ((unhide HG).1.trans (unhide HK).1 (fun _ _ h => h)).trans (hFL.mono (T := fun j => wc.heap.size ≤ j) (fun j _ h => ((unhide HGB).1 j h).1)) (fun i hi h => by omega)
                  have HL := hide (And.intro hsl hcl)
                  clear hsl hcl hFL hI hL hlt hk
                  go_wp2_with fail
                  go_loopw [27] (fun iv ws => ∃ (k : Nat) (L : List Nat), k ≤ SZ ∧ iv = .int .i64 (k : Nat) ∧ L.length = SZ ∧ Ow ws wE.heap.size so sc L ∧ Fr (fun j => ∃ o, so = some ⟨j, o, none⟩) wl ws) (fun iv _ => SZ - (intOf iv).toNat)
                  case atStart => exact ⟨0, (SG kk), Nat.zero_le _, rfl, (unhide HC).slen kk hkk, (unhide HL).1, Fr.refl _ _⟩
                  case round =>
                    rename World => ws
                    obtain ⟨k, L, hk, rfl, hL, hI, hFL⟩ := hrel
                    by_cases hlt : k < SZ
                    · have hlt' : (k : Int) < (SZ : Int) := by omega
                      obtain ⟨pg, rfl⟩ : ∃ pg, so = some ⟨pg, 0, none⟩ := by
                        rcases hI.2 with ⟨_, e⟩ | ⟨pg, cap, cur, e, _⟩
                        · omega
                        · simp only [Value.slice.injEq] at e
                          exact ⟨pg, e.1⟩
                      obtain ⟨u, hu⟩ : ∃ u, ws.cell? ⟨pg, k, none⟩ = some u := by
                        rw [World.ownsRow.cellAt hI k (by omega), List.getElem?_eq_getElem (by rw [cellsOf_length]; omega)]
                        exact ⟨_, rfl⟩
                      have hz := hI.fz k
                      have hP := hI.set k 99 (by decide)
                      have hF2 : Fr (fun j => ∃ o, some (⟨pg, 0, none⟩ : Addr) = some ⟨j, o, none⟩) wl (ws.setCell ⟨pg, k, none⟩ (.int .u8 99)) := Fr.setCell hFL (p := ⟨pg, k, none⟩) (.inl ⟨0, rfl⟩) _
                      have HP := hide (And.intro hP (And.intro hF2 hL))
                      clear hP hF2 hL hI hFL
                      go_wp2_with fail
                      exact ⟨⟨k + 1, _, by omega, by go_num, by rw [List.length_set]; exact (unhide HP).2.2, (unhide HP).1, (unhide HP).2.1⟩, by simp [intOf]; omega⟩
                    · have hlt' : ¬ (k : Int) < (SZ : Int) := by omega
                      have hcs : Fr (fun _ => False) wc ws := (unhide HL).2.trans (hFL.mono (T := fun j => wc.heap.size ≤ j) (fun j _ h => by
                        have h2 := (unhide HGB).2.1 j h
                        have h3 := (unhide HGB).2.2.1
                        have h4 := (unhide HGB).2.2.2
                        omega)) (fun i hi h => by omega)
                      have HS := hide ((unhide H8).2.2.2.2.trans ((unhide HCc).2.1.trans hcs (fun _ _ h => h)) (fun _ _ h => h))
                      clear hcs hFL hI hL hlt hk
                      go_wp2_with fail
                      exact ⟨⟨r + 1, by omega, by go_num, unhide HS⟩, by simp [intOf]; omega⟩
        · have hlt' : ¬ (r : Int) < 2 := by omega
          have HS := hide (unhide H8).2.2.2.1
          clear H8
          go_wp2_with fail
          refine ((unhide HC).liv _ (unhide HS)).mono ?_
          rintro e wZ ⟨rfl, hFZ⟩
          have HZ := hide ((unhide HS).trans hFZ (fun _ _ h => h))
          clear hFZ
          go_wp2_with fail
          go_ret
          exact ⟨rfl, unhide HZ⟩
end Go.Proofs.YtjokmlnghpnlbaaDoor

namespace Go.Proofs.YtjokmlnghpnlbaaDoor
open Go.RowKit

set_option maxRecDepth 100000 in
set_option maxHeartbeats 1000000 in
theorem lsigns_Cneg (wi t : Nat) (hw32 : wi ≤ 32) (hH : t ≤ 6) (hp : 8 < wi) (hp2 : 1 < t) (K : Int) (hK : K < 0) (x mv : Value) (seed m : List Nat) (w : World) (hg : GS w) (hr : GR w) (ht : GT w) (hx : Sl w x seed) (hm : Sl w mv m) (hs : seed.length ≤ 2000000) (hml : m.length ≤ 2000000) :
    Calls Tryd.prog 5 #[.int .i64 wi, .int .i64 t, x, .int .i64 K, mv] w fun e w' => e = .returned (.bool true) ∧ Fr (fun _ => False) w w' := by
  obtain ⟨xo, xc, rfl⟩ := hx.form
  obtain ⟨mo, mc, rfl⟩ := hm.form
  have hnil : ∀ w' : World, OB w' w' none 0 [] := fun w' => ⟨own_nil _ _, Fr.refl _ _⟩
  obtain ⟨bo, bc, w1, hr1, hO1⟩ := (hnil w).app _ seed hx.s (by simp; omega)
  rw [List.nil_append] at hr1 hO1
  rw [List.length_nil] at hr1
  have happ := fun w' (hf : Fr (fun _ => False) w w') => (hnil w').app _ m (hm.fr0 hf).s (by simp; omega)
  simp only [List.nil_append, List.length_nil] at happ
  have HC : Hid (S5 w w1 wi 1 (.slice bo seed.length bc) (.slice xo seed.length xc) (.slice mo m.length mc) m (KyB wi 1 seed w1.heap.size) 2 (16 * wi * wi + 1 * wi) (mth wi (lvs wi seed 2)) (fun K => sig wi 1 K seed (sm wi m)) (fun K => lf wi (eN wi seed K)) (lvs wi seed 2) (fun K => pth wi (lvs wi seed 2) K)) := hide (s5_of wi 1 (by omega) hw32 (by decide) _ _ _ seed m w w1 hg hr ht hx hs hm hml hO1.fr (hO1.sl hx.b))
  have hmay := fun w' => g5may_any wi t w'
  rw [decide_eq_true (by omega)] at hmay
  have hmay2 := fun w' => g5may_any wi 1 w'
  rw [decide_eq_true (by omega)] at hmay2
  have hSZ9 : 16 * wi * wi ≤ 16384 := Nat.mul_le_mul (show 16 * wi ≤ 512 by omega) hw32
  have hS9 : 16 * wi * wi + 1 * wi ≤ 20000 := by omega
  have hsb : seed.length ≤ 140737488355328 := by omega
  have hmb : m.length ≤ 140737488355328 := by omega
  generalize KyB wi 1 seed w1.heap.size = KY at *
  generalize 16 * wi * wi + 1 * wi = SZ at *
  generalize mth (wi : Int) (lvs wi seed 2) = PB at *
  generalize (fun K => pth wi (lvs wi seed 2) K) = PT at *
  generalize (fun K => sig wi 1 K seed (sm wi m)) = SG at *
  generalize (fun K => lf (wi : Int) (eN wi seed K)) = LF at *
  generalize lvs wi seed 2 = LS at *
  have HY := hide (And.intro hmay hmay2)
  have HR1 := hide hr1
  have HA := hide (And.intro happ (And.intro hx (And.intro hm (And.intro hO1 (And.intro hsb hmb)))))
  clear hmay hmay2 hx hm hg hr ht hSZ9 hsb hmb hr1 hO1 happ hnil
  generalize hSN : seed.length = SN at *
  generalize hML : m.length = ML at *
  have HSN := hide (And.intro hSN hML)
  clear hSN hML
  have hp' : (8 : Int) < (wi : Int) := by omega
  have hp2' : (1 : Int) < (t : Int) := by omega
  have hw1 : 1 ≤ wi := by omega
  have hKn : ¬ (0 ≤ K ∧ K < ((2 : Nat) : Int)) := by omega
  go_enter Tryd.func5, Tryd.ntmps5
  go_wp2_with fail
  refine ((unhide HY).1 _).mono ?_
  rintro e w0 ⟨rfl, rfl⟩
  go_wp2_with (at_builtin; refine wpList_app rfl _ _ 24 24 rfl _ _ _ rfl rfl (unhide HR1) ?_)
  refine (unhide HC).new.mono ?_
  rintro e w2 ⟨kb, rfl, hk2, hF2⟩
  have H2 := hide (And.intro hk2 hF2)
  clear hk2 hF2
  go_wp2_with fail
  refine ((unhide HY).2 _).mono ?_
  rintro e w3 ⟨rfl, rfl⟩
  have hbs : Sl w1 (.slice bo SN bc) seed := (unhide HA).2.2.2.1.sl2 (unhide HA).2.1.b (unhide HSN).1
  have hf3 : Fr (fun _ => False) w0 w3 := (unhide HA).2.2.2.1.fr.trans (unhide H2).2 (fun _ _ h => h)
  have H3 := hide (And.intro (hbs.fr0 (unhide H2).2) (And.intro ((unhide HA).2.1.fr0 hf3) hf3))
  clear hbs hf3
  go_wp2_with fail
  refine (same_T (unhide H3).1.s (unhide H3).2.1.s (by rw [(unhide HSN).1]; exact (unhide HA).2.2.2.2.1) (sameB_refl _)).mono ?_
  rintro e w4 ⟨rfl, hF4⟩
  have H4 := hide (And.intro ((unhide HC).fr _ _ _ (unhide H2).1 hF4) ((unhide H2).2.trans hF4 (fun _ _ h => h)))
  clear hF4
  go_wp2_with fail
  refine ((unhide HC).len _ _ (unhide H4).1).mono ?_
  rintro e w5 ⟨rfl, rfl⟩
  go_wp2_with fail
  go_loopw [14] (fun iv wb => ∃ (k : Nat) (L : List Nat), k ≤ SN ∧ iv = .int .i64 (k : Nat) ∧ L.length = SN ∧ Ow wb w0.heap.size bo bc L ∧ Fr (fun j => ∃ o, bo = some ⟨j, o, none⟩) w5 wb) (fun iv _ => SN - (intOf iv).toNat)
  case atStart => exact ⟨0, seed, Nat.zero_le _, rfl, (unhide HSN).1, (unhide HA).2.2.2.1.ow.fr0 (unhide H4).2, Fr.refl _ _⟩
  case round =>
    rename World => wb
    obtain ⟨k, L, hk, rfl, hL, hI, hFL⟩ := hrel
    by_cases hlt : k < SN
    · have hlt' : (k : Int) < (SN : Int) := by omega
      obtain ⟨pg, rfl⟩ : ∃ pg, bo = some ⟨pg, 0, none⟩ := by
        rcases hI.2 with ⟨_, e⟩ | ⟨pg, cap, cur, e, _⟩
        · omega
        · simp only [Value.slice.injEq] at e
          exact ⟨pg, e.1⟩
      obtain ⟨u, hu⟩ : ∃ u, wb.cell? ⟨pg, k, none⟩ = some u := by
        rw [World.ownsRow.cellAt hI k (by omega), List.getElem?_eq_getElem (by rw [cellsOf_length]; omega)]
        exact ⟨_, rfl⟩
      have hz := hI.fz k
      have hP := hI.set k 99 (by decide)
      have hF2 : Fr (fun j => ∃ o, some (⟨pg, 0, none⟩ : Addr) = some ⟨j, o, none⟩) w5 (wb.setCell ⟨pg, k, none⟩ (.int .u8 99)) := Fr.setCell hFL (p := ⟨pg, k, none⟩) (.inl ⟨0, rfl⟩) _
      have HP := hide (And.intro hP (And.intro hF2 hL))
      clear hP hF2 hL hI hFL
      go_wp2_with fail
      exact ⟨⟨k + 1, _, by omega, by go_num, by rw [List.length_set]; exact (unhide HP).2.2, (unhide HP).1, (unhide HP).2.1⟩, by simp [intOf]; omega⟩
    · have hlt' : ¬ (k : Int) < (SN : Int) := by omega
      have hsb : ∀ j, (∃ o, bo = some ⟨j, o, none⟩) → w0.heap.size ≤ j ∧ j < w1.heap.size := fun j h => by
        obtain ⟨o, rfl⟩ := h
        exact World.ownsRow.lt (unhide HA).2.2.2.1.own j rfl
      have hF0 : Fr (fun _ => False) w0 wb := ((unhide HA).2.2.2.1.fr.trans (unhide H4).2 (fun _ _ h => h)).trans (hFL.mono (T := fun j => w0.heap.size ≤ j) (fun j _ h => (hsb j h).1)) (fun i hi h => by omega)
      have hKb : KY wb kb := (unhide HC).frb _ _ _ _ (unhide H4).1 hFL (fun j h => ⟨(hsb j h).2, (hsb j h).1⟩)
      have H5 := hide (And.intro hKb hF0)
      clear hsb hF0 hKb hFL hI hL hlt hk
      go_wp2_with fail
      refine ((unhide HC).lvs _ (unhide H5).2).mono ?_
      rintro e w6 ⟨ao, cp, us, rfl, hP6, hC6, hF6⟩
      have H6 := hide (And.intro hP6 (And.intro hC6 (And.intro ((unhide HC).fr _ _ _ (unhide H5).1 hF6) ((unhide H5).2.trans hF6 (fun _ _ h => h)))))
      clear hP6 hC6 hF6
      go_wp2_with fail
      refine ((unhide HC).of _ _ us (unhide H6).2.2.2 (unhide H6).1 (unhide H6).2.1).mono ?_
      rintro e w7 ⟨yo, yc, rfl, hS7, hF7⟩
      have H7 := hide (And.intro ((unhide H6).1.fr0 hF7) (And.intro (unhide H6).2.1 (And.intro ((unhide HC).fr _ _ _ (unhide H6).2.2.1 hF7) (And.intro hS7 ((unhide H6).2.2.2.trans hF7 (fun _ _ h => h))))))
      clear hS7 hF7 H6 H5 H4 H3 H2
      go_wp2_with fail
      go_loopw [17] (fun iv wr => ∃ r : Nat, r ≤ 2 ∧ iv = .int .i64 (r : Nat) ∧ Fr (fun _ => False) w7 wr) (fun iv _ => 2 - (intOf iv).toNat)
      case atStart => exact ⟨0, by omega, rfl, Fr.refl _ _⟩
      case round =>
        rename World => wr
        obtain ⟨r, hr2, rfl, hFr⟩ := hrel
        have H8 := hide (And.intro ((unhide HC).fr _ _ _ (unhide H7).2.2.1 hFr) (And.intro ((unhide H7).1.fr0 hFr) (And.intro ((unhide H7).2.2.2.1.fr0 hFr) (And.intro ((unhide H7).2.2.2.2.trans hFr (fun _ _ h => h)) hFr))))
        clear hFr
        by_cases hlt : r < 2
        · have hlt' : (r : Int) < 2 := by omega
          go_wp2_with fail
          refine ((unhide HC).pub _ _ (unhide H8).1).mono ?_
          rintro e wA ⟨po, pc, rfl, hOA⟩
          have H9 := hide (And.intro hOA (hOA.sl2 (unhide HC).pbyt (unhide HC).plen))
          clear hOA
          go_wp2_with fail
          refine (same_T (unhide H9).2.s ((unhide H8).2.2.1.fr0 (unhide H9).1.fr).s (by rw [(unhide HC).plen]; omega) (sameB_refl _)).mono ?_
          rintro e wB ⟨rfl, hFB⟩
          have HB := hide hFB
          clear hFB
          go_wp2_with fail
          go_loopw [19] (fun iv wc => ∃ (k : Nat) (L : List Nat), k ≤ wi ∧ iv = .int .i64 (k : Nat) ∧ L.length = wi ∧ Ow wc wr.heap.size po pc L ∧ Fr (fun j => ∃ o, po = some ⟨j, o, none⟩) wB wc) (fun iv _ => wi - (intOf iv).toNat)
          case atStart => exact ⟨0, PB, Nat.zero_le _, rfl, (unhide HC).plen, (unhide H9).1.ow.fr0 (unhide HB), Fr.refl _ _⟩
          case round =>
            rename World => wc
            obtain ⟨k, L, hk, rfl, hL, hI, hFL⟩ := hrel
            by_cases hlt : k < wi
            · have hlt' : (k : Int) < (wi : Int) := by omega
              obtain ⟨pg, rfl⟩ : ∃ pg, po = some ⟨pg, 0, none⟩ := by
                rcases hI.2 with ⟨_, e⟩ | ⟨pg, cap, cur, e, _⟩
                · omega
                · simp only [Value.slice.injEq] at e
                  exact ⟨pg, e.1⟩
              obtain ⟨u, hu⟩ : ∃ u, wc.cell? ⟨pg, k, none⟩ = some u := by
                rw [World.ownsRow.cellAt hI k (by omega), List.getElem?_eq_getElem (by rw [cellsOf_length]; omega)]
                exact ⟨_, rfl⟩
              have hz := hI.fz k
              have hP := hI.set k 99 (by decide)
              have hF2 : Fr (fun j => ∃ o, some (⟨pg, 0, none⟩ : Addr) = some ⟨j, o, none⟩) wB (wc.setCell ⟨pg, k, none⟩ (.int .u8 99)) := Fr.setCell hFL (p := ⟨pg, k, none⟩) (.inl ⟨0, rfl⟩) _
              have HP := hide (And.intro hP (And.intro hF2 hL))
              clear hP hF2 hL hI hFL
              go_wp2_with fail
              exact ⟨⟨k + 1, _, by omega, by go_num, by rw [List.length_set]; exact (unhide HP).2.2, (unhide HP).1, (unhide HP).2.1⟩, by simp [intOf]; omega⟩
            · have hlt' : ¬ (k : Int) < (wi : Int) := by omega
              have hFC : Fr (fun _ => False) wr wc := ((unhide H9).1.fr.trans (unhide HB) (fun _ _ h => h)).trans (hFL.mono (T := fun j => wr.heap.size ≤ j) (fun j _ h => by
                obtain ⟨o, rfl⟩ := h
                exact (World.ownsRow.lt (unhide H9).1.own j rfl).1)) (fun i hi h => by omega)
              have hKC := (unhide HC).fr _ _ _ (unhide H8).1 hFC
              have HCc := hide (And.intro hKC (And.intro hFC ((unhide H8).2.2.2.1.trans hFC (fun _ _ h => h))))
              clear hFC hKC hFL hI hL hlt hk H9 HB
              go_wp2_with fail
              refine ((unhide HC).leafn _ _ K (unhide HCc).1 hKn).mono ?_
              rintro e wD ⟨rfl, rfl⟩
              obtain ⟨mo2, mc2, wE, hrE, hOE⟩ := (unhide HA).1 wD (unhide HCc).2.2
              have hmE : Sl wE (.slice mo2 ML mc2) m := hOE.sl2 (unhide HA).2.2.1.b (unhide HSN).2
              have HRE := hide hrE
              have HE := hide (And.intro hOE (And.intro hmE ((unhide HC).fr _ _ _ (unhide HCc).1 hOE.fr)))
              clear hrE hOE hmE
              go_wp2_with (at_builtin; refine wpList_app rfl _ _ 24 24 rfl _ _ _ rfl rfl (unhide HRE) ?_)
              refine ((unhide HC).signn _ _ K _ (unhide HE).2.2 hKn).mono ?_
              rintro e wF ⟨rfl, hFF⟩
              have hcF : Fr (fun _ => False) wD wF := (unhide HE).1.fr.trans hFF (fun _ _ h => h)
              have HF := hide (And.intro ((unhide HE).2.1.fr0 hFF) (And.intro hcF ((unhide HA).2.2.1.fr0 ((unhide HCc).2.2.trans hcF (fun _ _ h => h)))))
              clear hFF hcF
              go_wp2_with fail
              refine (same_T (unhide HF).1.s (unhide HF).2.2.s (by rw [(unhide HSN).2]; exact (unhide HA).2.2.2.2.2) (sameB_refl _)).mono ?_
              rintro e wG ⟨rfl, hFG⟩
              have HS := hide ((unhide H8).2.2.2.2.trans ((unhide HCc).2.1.trans ((unhide HF).2.1.trans hFG (fun _ _ h => h)) (fun _ _ h => h)) (fun _ _ h => h))
              clear hFG HF HE
              go_wp2_with fail
              exact ⟨⟨r + 1, by omega, by go_num, unhide HS⟩, by simp [intOf]; omega⟩
        · have hlt' : ¬ (r : Int) < 2 := by omega
          have HS := hide (unhide H8).2.2.2.1
          clear H8
          go_wp2_with fail
          refine ((unhide HC).liv _ (unhide HS)).mono ?_
          rintro e wZ ⟨rfl, hFZ⟩
          have HZ := hide ((unhide HS).trans hFZ (fun _ _ h => h))
          clear hFZ
          go_wp2_with fail
          go_ret
          exact ⟨rfl, unhide HZ⟩
end Go.Proofs.YtjokmlnghpnlbaaDoor

namespace Go.Proofs.YtjokmlnghpnlbaaDoor
open Go.RowKit

set_option maxRecDepth 100000 in
set_option maxHeartbeats 1000000 in
theorem lsigns_Cbig (wi t : Nat) (hw32 : wi ≤ 32) (hH : t ≤ 6) (hp : 8 < wi) (hp2 : 1 < t) (K : Int) (hK : ((2 : Nat) : Int) ≤ K) (x mv : Value) (seed m : List Nat) (w : World) (hg : GS w) (hr : GR w) (ht : GT w) (hx : Sl w x seed) (hm : Sl w mv m) (hs : seed.length ≤ 2000000) (hml : m.length ≤ 2000000) :
    Calls Tryd.prog 5 #[.int .i64 wi, .int .i64 t, x, .int .i64 K, mv] w fun e w' => e = .returned (.bool true) ∧ Fr (fun _ => False) w w' := by
  obtain ⟨xo, xc, rfl⟩ := hx.form
  obtain ⟨mo, mc, rfl⟩ := hm.form
  have hnil : ∀ w' : World, OB w' w' none 0 [] := fun w' => ⟨own_nil _ _, Fr.refl _ _⟩
  obtain ⟨bo, bc, w1, hr1, hO1⟩ := (hnil w).app _ seed hx.s (by simp; omega)
  rw [List.nil_append] at hr1 hO1
  rw [List.length_nil] at hr1
  have happ := fun w' (hf : Fr (fun _ => False) w w') => (hnil w').app _ m (hm.fr0 hf).s (by simp; omega)
  simp only [List.nil_append, List.length_nil] at happ
  have HC : Hid (S5 w w1 wi 1 (.slice bo seed.length bc) (.slice xo seed.length xc) (.slice mo m.length mc) m (KyB wi 1 seed w1.heap.size) 2 (16 * wi * wi + 1 * wi) (mth wi (lvs wi seed 2)) (fun K => sig wi 1 K seed (sm wi m)) (fun K => lf wi (eN wi seed K)) (lvs wi seed 2) (fun K => pth wi (lvs wi seed 2) K)) := hide (s5_of wi 1 (by omega) hw32 (by decide) _ _ _ seed m w w1 hg hr ht hx hs hm hml hO1.fr (hO1.sl hx.b))
  have hmay := fun w' => g5may_any wi t w'
  rw [decide_eq_true (by omega)] at hmay
  have hmay2 := fun w' => g5may_any wi 1 w'
  rw [decide_eq_true (by omega)] at hmay2
  have hSZ9 : 16 * wi * wi ≤ 16384 := Nat.mul_le_mul (show 16 * wi ≤ 512 by omega) hw32
  have hS9 : 16 * wi * wi + 1 * wi ≤ 20000 := by omega
  have hsb : seed.length ≤ 140737488355328 := by omega
  have hmb : m.length ≤ 140737488355328 := by omega
  generalize KyB wi 1 seed w1.heap.size = KY at *
  generalize 16 * wi * wi + 1 * wi = SZ at *
  generalize mth (wi : Int) (lvs wi seed 2) = PB at *
  generalize (fun K => pth wi (lvs wi seed 2) K) = PT at *
  generalize (fun K => sig wi 1 K seed (sm wi m)) = SG at *
  generalize (fun K => lf (wi : Int) (eN wi seed K)) = LF at *
  generalize lvs wi seed 2 = LS at *
  have HY := hide (And.intro hmay hmay2)
  have HR1 := hide hr1
  have HA := hide (And.intro happ (And.intro hx (And.intro hm (And.intro hO1 (And.intro hsb hmb)))))
  clear hmay hmay2 hx hm hg hr ht hSZ9 hsb hmb hr1 hO1 happ hnil
  generalize hSN : seed.length = SN at *
  generalize hML : m.length = ML at *
  have HSN := hide (And.intro hSN hML)
  clear hSN hML
  have hp' : (8 : Int) < (wi : Int) := by omega
  have hp2' : (1 : Int) < (t : Int) := by omega
  have hw1 : 1 ≤ wi := by omega
  have hk1 : ¬ K < 0 := by omega
  have hK2 : (2 : Int) ≤ K := by omega
  have hKn : ¬ (0 ≤ K ∧ K < ((2 : Nat) : Int)) := by omega
  go_enter Tryd.func5, Tryd.ntmps5
  go_wp2_with fail
  refine ((unhide HY).1 _).mono ?_
  rintro e w0 ⟨rfl, rfl⟩
  go_wp2_with (at_builtin; refine wpList_app rfl _ _ 24 24 rfl _ _ _ rfl rfl (unhide HR1) ?_)
  refine (unhide HC).new.mono ?_
  rintro e w2 ⟨kb, rfl, hk2, hF2⟩
  have H2 := hide (And.intro hk2 hF2)
  clear hk2 hF2
  go_wp2_with fail
  refine ((unhide HY).2 _).mono ?_
  rintro e w3 ⟨rfl, rfl⟩
  have hbs : Sl w1 (.slice bo SN bc) seed := (unhide HA).2.2.2.1.sl2 (unhide HA).2.1.b (unhide HSN).1
  have hf3 : Fr (fun _ => False) w0 w3 := (unhide HA).2.2.2.1.fr.trans (unhide H2).2 (fun _ _ h => h)
  have H3 := hide (And.intro (hbs.fr0 (unhide H2).2) (And.intro ((unhide HA).2.1.fr0 hf3) hf3))
  clear hbs hf3
  go_wp2_with fail
  refine (same_T (unhide H3).1.s (unhide H3).2.1.s (by rw [(unhide HSN).1]; exact (unhide HA).2.2.2.2.1) (sameB_refl _)).mono ?_
  rintro e w4 ⟨rfl, hF4⟩
  have H4 := hide (And.intro ((unhide HC).fr _ _ _ (unhide H2).1 hF4) ((unhide H2).2.trans hF4 (fun _ _ h => h)))
  clear hF4
  go_wp2_with fail
  refine ((unhide HC).len _ _ (unhide H4).1).mono ?_
  rintro e w5 ⟨rfl, rfl⟩
  go_wp2_with fail
  go_loopw [14] (fun iv wb => ∃ (k : Nat) (L : List Nat), k ≤ SN ∧ iv = .int .i64 (k : Nat) ∧ L.length = SN ∧ Ow wb w0.heap.size bo bc L ∧ Fr (fun j => ∃ o, bo = some ⟨j, o, none⟩) w5 wb) (fun iv _ => SN - (intOf iv).toNat)
  case atStart => exact ⟨0, seed, Nat.zero_le _, rfl, (unhide HSN).1, (unhide HA).2.2.2.1.ow.fr0 (unhide H4).2, Fr.refl _ _⟩
  case round =>
    rename World => wb
    obtain ⟨k, L, hk, rfl, hL, hI, hFL⟩ := hrel
    by_cases hlt : k < SN
    · have hlt' : (k : Int) < (SN : Int) := by omega
      obtain ⟨pg, rfl⟩ : ∃ pg, bo = some ⟨pg, 0, none⟩ := by
        rcases hI.2 with ⟨_, e⟩ | ⟨pg, cap, cur, e, _⟩
        · omega
        · simp only [Value.slice.injEq] at e
          exact ⟨pg, e.1⟩
      obtain ⟨u, hu⟩ : ∃ u, wb.cell? ⟨pg, k, none⟩ = some u := by
        rw [World.ownsRow.cellAt hI k (by omega), List.getElem?_eq_getElem (by rw [cellsOf_length]; omega)]
        exact ⟨_, rfl⟩
      have hz := hI.fz k
      have hP := hI.set k 99 (by decide)
      have hF2 : Fr (fun j => ∃ o, some (⟨pg, 0, none⟩ : Addr) = some ⟨j, o, none⟩) w5 (wb.setCell ⟨pg, k, none⟩ (.int .u8 99)) := Fr.setCell hFL (p := ⟨pg, k, none⟩) (.inl ⟨0, rfl⟩) _
      have HP := hide (And.intro hP (And.intro hF2 hL))
      clear hP hF2 hL hI hFL
      go_wp2_with fail
      exact ⟨⟨k + 1, _, by omega, by go_num, by rw [List.length_set]; exact (unhide HP).2.2, (unhide HP).1, (unhide HP).2.1⟩, by simp [intOf]; omega⟩
    · have hlt' : ¬ (k : Int) < (SN : Int) := by omega
      have hsb : ∀ j, (∃ o, bo = some ⟨j, o, none⟩) → w0.heap.size ≤ j ∧ j < w1.heap.size := fun j h => by
        obtain ⟨o, rfl⟩ := h
        exact World.ownsRow.lt (unhide HA).2.2.2.1.own j rfl
      have hF0 : Fr (fun _ => False) w0 wb := ((unhide HA).2.2.2.1.fr.trans (unhide H4).2 (fun _ _ h => h)).trans (hFL.mono (T := fun j => w0.heap.size ≤ j) (fun j _ h => (hsb j h).1)) (fun i hi h => by omega)
      have hKb : KY wb kb := (unhide HC).frb _ _ _ _ (unhide H4).1 hFL (fun j h => ⟨(hsb j h).2, (hsb j h).1⟩)
      have H5 := hide (And.intro hKb hF0)
      clear hsb hF0 hKb hFL hI hL hlt hk
      go_wp2_with fail
      refine ((unhide HC).lvs _ (unhide H5).2).mono ?_
      rintro e w6 ⟨ao, cp, us, rfl, hP6, hC6, hF6⟩
      have H6 := hide (And.intro hP6 (And.intro hC6 (And.intro ((unhide HC).fr _ _ _ (unhide H5).1 hF6) ((unhide H5).2.trans hF6 (fun _ _ h => h)))))
      clear hP6 hC6 hF6
      go_wp2_with fail
      refine ((unhide HC).of _ _ us (unhide H6).2.2.2 (unhide H6).1 (unhide H6).2.1).mono ?_
      rintro e w7 ⟨yo, yc, rfl, hS7, hF7⟩
      have H7 := hide (And.intro ((unhide H6).1.fr0 hF7) (And.intro (unhide H6).2.1 (And.intro ((unhide HC).fr _ _ _ (unhide H6).2.2.1 hF7) (And.intro hS7 ((unhide H6).2.2.2.trans hF7 (fun _ _ h => h))))))
      clear hS7 hF7 H6 H5 H4 H3 H2
      go_wp2_with fail
      go_loopw [17] (fun iv wr => ∃ r : Nat, r ≤ 2 ∧ iv = .int .i64 (r : Nat) ∧ Fr (fun _ => False) w7 wr) (fun iv _ => 2 - (intOf iv).toNat)
      case atStart => exact ⟨0, by omega, rfl, Fr.refl _ _⟩
      case round =>
        rename World => wr
        obtain ⟨r, hr2, rfl, hFr⟩ := hrel
        have H8 := hide (And.intro ((unhide HC).fr _ _ _ (unhide H7).2.2.1 hFr) (And.intro ((unhide H7).1.fr0 hFr) (And.intro ((unhide H7).2.2.2.1.fr0 hFr) (And.intro ((unhide H7).2.2.2.2.trans hFr (fun _ _ h => h)) hFr))))
        clear hFr
        by_cases hlt : r < 2
        · have hlt' : (r : Int) < 2 := by omega
          go_wp2_with fail
          refine ((unhide HC).pub _ _ (unhide H8).1).mono ?_
          rintro e wA ⟨po, pc, rfl, hOA⟩
          have H9 := hide (And.intro hOA (hOA.sl2 (unhide HC).pbyt (unhide HC).plen))
          clear hOA
          go_wp2_with fail
          refine (same_T (unhide H9).2.s ((unhide H8).2.2.1.fr0 (unhide H9).1.fr).s (by rw [(unhide HC).plen]; omega) (sameB_refl _)).mono ?_
          rintro e wB ⟨rfl, hFB⟩
          have HB := hide hFB
          clear hFB
          go_wp2_with fail
          go_loopw [19] (fun iv wc => ∃ (k : Nat) (L : List Nat), k ≤ wi ∧ iv = .int .i64 (k : Nat) ∧ L.length = wi ∧ Ow wc wr.heap.size po pc L ∧ Fr (fun j => ∃ o, po = some ⟨j, o, none⟩) wB wc) (fun iv _ => wi - (intOf iv).toNat)
          case atStart => exact ⟨0, PB, Nat.zero_le _, rfl, (unhide HC).plen, (unhide H9).1.ow.fr0 (unhide HB), Fr.refl _ _⟩
          case round =>
            rename World => wc
            obtain ⟨k, L, hk, rfl, hL, hI, hFL⟩ := hrel
            by_cases hlt : k < wi
            · have hlt' : (k : Int) < (wi : Int) := by omega
              obtain ⟨pg, rfl⟩ : ∃ pg, po = some ⟨pg, 0, none⟩ := by
                rcases hI.2 with ⟨_, e⟩ | ⟨pg, cap, cur, e, _⟩
                · omega
                · simp only [Value.slice.injEq] at e
                  exact ⟨pg, e.1⟩
              obtain ⟨u, hu⟩ : ∃ u, wc.cell? ⟨pg, k, none⟩ = some u := by
                rw [World.ownsRow.cellAt hI k (by omega), List.getElem?_eq_getElem (by rw [cellsOf_length]; omega)]
                exact ⟨_, rfl⟩
              have hz := hI.fz k
              have hP := hI.set k 99 (by decide)
              have hF2 : Fr (fun j => ∃ o, some (⟨pg, 0, none⟩ : Addr) = some ⟨j, o, none⟩) wB (wc.setCell ⟨pg, k, none⟩ (.int .u8 99)) := Fr.setCell hFL (p := ⟨pg, k, none⟩) (.inl ⟨0, rfl⟩) _
              have HP := hide (And.intro hP (And.intro hF2 hL))
              clear hP hF2 hL hI hFL
              go_wp2_with fail
              exact ⟨⟨k + 1, _, by omega, by go_num, by rw [List.length_set]; exact (unhide HP).2.2, (unhide HP).1, (unhide HP).2.1⟩, by simp [intOf]; omega⟩
            · have hlt' : ¬ (k : Int) < (wi : Int) := by omega
              have hFC : Fr (fun _ => False) wr wc := ((unhide H9).1.fr.trans (unhide HB) (fun _ _ h => h)).trans (hFL.mono (T := fun j => wr.heap.size ≤ j) (fun j _ h => by
                obtain ⟨o, rfl⟩ := h
                exact (World.ownsRow.lt (unhide H9).1.own j rfl).1)) (fun i hi h => by omega)
              have hKC := (unhide HC).fr _ _ _ (unhide H8).1 hFC
              have HCc := hide (And.intro hKC (And.intro hFC ((unhide H8).2.2.2.1.trans hFC (fun _ _ h => h))))
              clear hFC hKC hFL hI hL hlt hk H9 HB
              go_wp2_with fail
              refine ((unhide HC).leafn _ _ K (unhide HCc).1 hKn).mono ?_
              rintro e wD ⟨rfl, rfl⟩
              obtain ⟨mo2, mc2, wE, hrE, hOE⟩ := (unhide HA).1 wD (unhide HCc).2.2
              have hmE : Sl wE (.slice mo2 ML mc2) m := hOE.sl2 (unhide HA).2.2.1.b (unhide HSN).2
              have HRE := hide hrE
              have HE := hide (And.intro hOE (And.intro hmE ((unhide HC).fr _ _ _ (unhide HCc).1 hOE.fr)))
              clear hrE hOE hmE
              go_wp2_with (at_builtin; refine wpList_app rfl _ _ 24 24 rfl _ _ _ rfl rfl (unhide HRE) ?_)
              refine ((unhide HC).signn _ _ K _ (unhide HE).2.2 hKn).mono ?_
              rintro e wF ⟨rfl, hFF⟩
              have hcF : Fr (fun _ => False) wD wF := (unhide HE).1.fr.trans hFF (fun _ _ h => h)
              have HF := hide (And.intro ((unhide HE).2.1.fr0 hFF) (And.intro hcF ((unhide HA).2.2.1.fr0 ((unhide HCc).2.2.trans hcF (fun _ _ h => h)))))
              clear hFF hcF
              go_wp2_with fail
              refine (same_T (unhide HF).1.s (unhide HF).2.2.s (by rw [(unhide HSN).2]; exact (unhide HA).2.2.2.2.2) (sameB_refl _)).mono ?_
              rintro e wG ⟨rfl, hFG⟩
              have HS := hide ((unhide H8).2.2.2.2.trans ((unhide HCc).2.1.trans ((unhide HF).2.1.trans hFG (fun _ _ h => h)) (fun _ _ h => h)) (fun _ _ h => h))
              clear hFG HF HE
              go_wp2_with fail
              exact ⟨⟨r + 1, by omega, by go_num, unhide HS⟩, by simp [intOf]; omega⟩
        · have hlt' : ¬ (r : Int) < 2 := by omega
          have HS := hide (unhide H8).2.2.2.1
          clear H8
          go_wp2_with fail
          refine ((unhide HC).liv _ (unhide HS)).mono ?_
          rintro e wZ ⟨rfl, hFZ⟩
          have HZ := hide ((unhide HS).trans hFZ (fun _ _ h => h))
          clear hFZ
          go_wp2_with fail
          go_ret
          exact ⟨rfl, unhide HZ⟩
end Go.Proofs.YtjokmlnghpnlbaaDoor

namespace Go.Proofs.YtjokmlnghpnlbaaDoor
open Go.RowKit

set_option maxRecDepth 100000 in
set_option maxHeartbeats 1000000 in
theorem lsigns_D (v t : Int) (hp : ¬ ((1 ≤ v ∧ v ≤ 32) ∧ 0 ≤ t ∧ t ≤ 6)) (K : Int) (x mv : Value) (seed : List Nat) (w : World) (hg : GS w) (ht : GT w) (hx : Sl w x seed) (hs : seed.length ≤ 2000000) :
    Calls Tryd.prog 5 #[.int .i64 v, .int .i64 t, x, .int .i64 K, mv] w fun e w' => e = .returned (.bool true) ∧ Fr (fun _ => False) w w' := by
  obtain ⟨xo, xc, rfl⟩ := hx.form
  have hnil : ∀ w' : World, OB w' w' none 0 [] := fun w' => ⟨own_nil _ _, Fr.refl _ _⟩
  obtain ⟨bo, bc, w1, hr1, hO1⟩ := (hnil w).app _ seed hx.s (by simp; omega)
  rw [List.nil_append] at hr1 hO1
  rw [List.length_nil] at hr1
  have hmay := fun w' => g5may_any v t w'
  rw [decide_eq_false hp] at hmay
  have hnew := fun y w' => lnew_no v t hp y w'
  have HY := hide (And.intro hmay hnew)
  have HR1 := hide hr1
  have HA := hide (And.intro (hg.fr0 hO1.fr) (And.intro (ht.fr0 hO1.fr) hO1.fr))
  clear hmay hnew hr1 hO1 hnil hx hg ht hp
  generalize seed.length = SN at *
  go_enter Tryd.func5, Tryd.ntmps5
  go_wp2_with fail
  refine ((unhide HY).1 _).mono ?_
  rintro e w0 ⟨rfl, rfl⟩
  go_wp2_with (at_builtin; refine wpList_app rfl _ _ 24 24 rfl _ _ _ rfl rfl (unhide HR1) ?_)
  refine ((unhide HY).2 _ _).mono ?_
  rintro e w2 ⟨rfl, rfl⟩
  go_wp2_with fail
  refine ((unhide HY).1 _).mono ?_
  rintro e w3 ⟨rfl, rfl⟩
  go_wp2_with fail
  refine (lives5_any _ (unhide HA).1 (unhide HA).2.1).mono ?_
  rintro e w4 ⟨rfl, hF4⟩
  have H4 := hide ((unhide HA).2.2.trans hF4 (fun _ _ h => h))
  clear hF4
  go_wp2_with fail
  go_ret
  exact ⟨rfl, unhide H4⟩
end Go.Proofs.YtjokmlnghpnlbaaDoor

namespace Go.Proofs.YtjokmlnghpnlbaaDoor
open Go.RowKit

/-- LamportSigns. -/
theorem lsigns_any (j h K : Int) (x mv : Value) (seed m : List Nat) (w : World) (hg : GS w) (hr : GR w) (ht : GT w) (hx : Sl w x seed) (hm : Sl w mv m) (hs : seed.length ≤ 2000000) (hml : m.length ≤ 2000000) :
    Calls Tryd.prog 5 #[.int .i64 j, .int .i64 h, x, .int .i64 K, mv] w fun e w' => e = .returned (.bool true) ∧ Fr (fun _ => False) w w' := by
  by_cases hp : (1 ≤ j ∧ j ≤ 32) ∧ 0 ≤ h ∧ h ≤ 6
  · obtain ⟨wi, rfl⟩ : ∃ wi : Nat, j = (wi : Int) := ⟨j.toNat, by omega⟩
    obtain ⟨H, rfl⟩ : ∃ H : Nat, h = (H : Int) := ⟨h.toNat, by omega⟩
    by_cases h8 : 8 < wi
    · by_cases h2 : 1 < H
      · by_cases k1 : K < 0
        · exact lsigns_Cneg wi H (by omega) (by omega) (by omega) (by omega) K k1 x mv seed m w hg hr ht hx hm hs hml
        · by_cases k2 : ((2 : Nat) : Int) ≤ K
          · exact lsigns_Cbig wi H (by omega) (by omega) (by omega) (by omega) K k2 x mv seed m w hg hr ht hx hm hs hml
          · obtain ⟨kk, rfl⟩ : ∃ kk : Nat, K = (kk : Int) := ⟨K.toNat, by omega⟩
            exact lsigns_Cin wi H (by omega) (by omega) (by omega) (by omega) kk (Int.ofNat_lt.1 (Int.not_le.1 k2)) x mv seed m w hg hr ht hx hm hs hml
      · by_cases k1 : K < 0
        · exact lsigns_Bneg wi H (by omega) (by omega) (by omega) (by omega) (by omega) K k1 x mv seed m w hg hr ht hx hm hs hml
        · by_cases k2 : ((2 ^ H : Nat) : Int) ≤ K
          · exact lsigns_Bbig wi H (by omega) (by omega) (by omega) (by omega) (by omega) K k2 x mv seed m w hg hr ht hx hm hs hml
          · obtain ⟨kk, rfl⟩ : ∃ kk : Nat, K = (kk : Int) := ⟨K.toNat, by omega⟩
            exact lsigns_Bin wi H (by omega) (by omega) (by omega) (by omega) (by omega) kk (Int.ofNat_lt.1 (Int.not_le.1 k2)) x mv seed m w hg hr ht hx hm hs hml
    · by_cases k1 : K < 0
      · exact lsigns_Aneg wi H (by omega) (by omega) (by omega) (by omega) K k1 x mv seed m w hg hr ht hx hm hs hml
      · by_cases k2 : ((2 ^ H : Nat) : Int) ≤ K
        · exact lsigns_Abig wi H (by omega) (by omega) (by omega) (by omega) K k2 x mv seed m w hg hr ht hx hm hs hml
        · obtain ⟨kk, rfl⟩ : ∃ kk : Nat, K = (kk : Int) := ⟨K.toNat, by omega⟩
          exact lsigns_Ain wi H (by omega) (by omega) (by omega) (by omega) kk (Int.ofNat_lt.1 (Int.not_le.1 k2)) x mv seed m w hg hr ht hx hm hs hml
  · exact lsigns_D j h hp K x mv seed w hg ht hx hs
end Go.Proofs.YtjokmlnghpnlbaaDoor

namespace Go.Proofs.YtjokmlnghpnlbaaDoor
open Go.ChangeShapes Go.WideShapes Go.ChangeAt Go.RowKit
set_option maxRecDepth 100000

theorem lsigns_contract (H : Type) (enc : TypeId × Value → H) (W : World) (base : Nat) (args : Array Value) (ds gs : List (DataW H)) (before : List MemPlace)
    (hval : ∀ (j : Nat) t v, Tryd.f5.params[j]? = some t → args[j]? = some v → Value.okWide Tryd.prog W .any base t v)
    (hW : DataW.Whole enc Tryd.prog Tryd.f5.params.toList Rows.lamportSignsSpec.vars false W args.toList ds gs before) (hk : Rows.uptoSmall H (ds ++ gs) = true) (hL : laidMetH Tryd.prog Rows.lamportSignsUptoRow.laid W) (hsh : W.ShapedOpen Tryd.prog) :
    Calls Tryd.prog 5 args W fun e W' => ∃ v, e = .returned v ∧ Rows.lamportSignsSpec.post enc Tryd.prog Tryd.f5 false true false false W args v W' := by
  have hW' := hW
  obtain ⟨p, q, hA0, hV, rfl, hfz, hnd⟩ := hW
  have hA : DataW.TrodAll enc Tryd.prog W 0 (fun _ => true) true Tryd.f5.params.toList args.toList ds p := hA0
  rw [Tryd.params5] at hA hval
  obtain ⟨v0, vs0, d0, ds0, p0, q0, hargs, rfl, rfl, h0, r0⟩ := trodAll_cons hA
  obtain ⟨v1, vs1, d1, ds1, p1, q1, rfl, rfl, rfl, h1, r1⟩ := trodAll_cons r0
  obtain ⟨v2, vs2, d2, ds2, p2, q2, rfl, rfl, rfl, h2, r2⟩ := trodAll_cons r1
  obtain ⟨v3, vs3, d3, ds3, p3, q3, rfl, rfl, rfl, h3, r3⟩ := trodAll_cons r2
  obtain ⟨v4, vs4, d4, ds4, p4, q4, rfl, rfl, rfl, h4, r4⟩ := trodAll_cons r3
  obtain ⟨rfl, rfl, rfl⟩ := trodAll_nil r4
  obtain rfl : args = #[v0, v1, v2, v3, v4] := by cases args; simp_all
  obtain ⟨rfl, rfl⟩ := trodVars_none hV
  obtain ⟨a0, rfl, rfl, rfl, w0⟩ := open_int Tryd.underlying3 (hval 0 3 v0 rfl rfl) h0
  obtain ⟨a1, rfl, rfl, rfl, w1⟩ := open_int Tryd.underlying3 (hval 1 3 v1 rfl rfl) h1
  have hb2 : ∃ l : List Nat, Sl W v2 l ∧ l.length ≤ Rows.uptoBulk d2 := by
    obtain ⟨a, len, cap, rfl⟩ := okWide_slice Tryd.underlying24 (hval 2 24 v2 rfl rfl)
    obtain ⟨fuel, hf⟩ := h2
    obtain ⟨l, q1, q2, q3, q4, q5⟩ := src_of_trod (by simpa [Value.cells] using hf)
    exact ⟨l, ⟨q1, q3, q4, q2⟩, q5⟩
  obtain ⟨l2, hS2, hN2⟩ := hb2
  obtain ⟨a3, rfl, rfl, rfl, w3⟩ := open_int Tryd.underlying3 (hval 3 3 v3 rfl rfl) h3
  have hb4 : ∃ l : List Nat, Sl W v4 l ∧ l.length ≤ Rows.uptoBulk d4 := by
    obtain ⟨a, len, cap, rfl⟩ := okWide_slice Tryd.underlying24 (hval 4 24 v4 rfl rfl)
    obtain ⟨fuel, hf⟩ := h4
    obtain ⟨l, q1, q2, q3, q4, q5⟩ := src_of_trod (by simpa [Value.cells] using hf)
    exact ⟨l, ⟨q1, q3, q4, q2⟩, q5⟩
  obtain ⟨l4, hS4, hN4⟩ := hb4
  have hk2 : Rows.uptoBulk d2 ≤ 1048576 := by
    have h := of_decide_eq_true hk
    simp only [List.append_nil, Rows.uptoBulkAll] at h
    omega
  have hk4 : Rows.uptoBulk d4 ≤ 1048576 := by
    have h := of_decide_eq_true hk
    simp only [List.append_nil, Rows.uptoBulkAll] at h
    omega
  obtain ⟨hg, hr, ht⟩ := g6_of_laid (show laidMet Tryd.prog laid6 W from hL) (heap_enough hsh)
  clear hA0
  refine (lsigns_any a0 a1 a3 v2 v4 l2 l4 W hg hr ht hS2 hS4 (by omega) (by omega)).mono fun e W' ⟨he, hf⟩ => ?_
  subst he
  have hlt : ∀ x ∈ [] ++ ([] ++ (p2 ++ ([] ++ (p4 ++ [])))), x.block < W.heap.size := fun x hx => hW'.lt x (by simpa using hx)
  have hb := hf.below
  refine ⟨_, rfl, _, _, _, [], [] ++ ([] ++ (p2 ++ ([] ++ (p4 ++ [])))), [], hW', ?_, ?_, ?_, hb.frame _, fun h => by cases h⟩
  · exact trodAll_cons_mk (shut_bool Tryd.underlying4 true) trodAll_mk0
  · exact (trodAll_cons_mk (shut_int Tryd.underlying3 w0) (trodAll_cons_mk (shut_int Tryd.underlying3 w1) (trodAll_cons_mk (Below.trod (by kernel_rfl) (by kernel_rfl) (by decide +kernel) h2 hb (fun x hx => hlt x (by simp [hx]))) (trodAll_cons_mk (shut_int Tryd.underlying3 w3) (trodAll_cons_mk (Below.trod (by kernel_rfl) (by kernel_rfl) (by decide +kernel) h4 hb (fun x hx => hlt x (by simp [hx]))) trodAll_mk0)))))
  · rfl

theorem lsigns_laid_met (os : Os) : laidMetH Tryd.prog Rows.lamportSignsUptoRow.laid ((mWorld os).forCall (fun _ _ => 0) ⟨#[], #[.int .i64 0, .int .i64 0, .slice none 0 0, .int .i64 0, .slice none 0 0], []⟩).memory :=
  laidMetH_of_parts (laidMet_of_run' 8 (by kernel_rfl) (by kernel_rfl)) (by kernel_rfl)
theorem lsigns_reads (os : Os) {H : Type} (enc : TypeId × Value → H) : ∃ places, DataW.whole enc Tryd.prog ((mWorld os).forCall (fun _ _ => 0) ⟨#[], #[.int .i64 0, .int .i64 0, .slice none 0 0, .int .i64 0, .slice none 0 0], []⟩).memory Tryd.f5.params.toList Rows.lamportSignsSpec.vars false #[Value.int .i64 0, .int .i64 0, .slice none 0 0, .int .i64 0, .slice none 0 0].toList 8 = some ([.lit (.int .i64 0), .lit (.int .i64 0), .nil, .lit (.int .i64 0), .nil], [], places) :=
  ⟨[], by kernel_rfl⟩

theorem lsigns_lifted (os : Os) (started : os.Started) (H : Type) (enc : TypeId × Value → H) (F : Stop.Interp) :
    ReturnsInHanded {} Tryd.checked os 5 .any ((Rows.OpenSpec.upto Rows.lamportSignsSpec).preRow enc Tryd.prog Tryd.f5 Rows.lamportSignsUptoRow.domain false Rows.lamportSignsUptoRow.laid) (((Rows.OpenSpec.upto Rows.lamportSignsSpec).at F).post enc Tryd.prog Tryd.f5 false true false false) := by
  obtain ⟨places, hx⟩ := lsigns_reads os enc
  refine returnsInHanded_of_row (C := Tryd.checked) (s := Rows.OpenSpec.upto Rows.lamportSignsSpec) Tryd.ownKnob started (by kernel_rfl) Tryd.func5
    (witness_row_atRef (enc := enc) (C := Tryd.checked) false (mWorld os) #[.int .i64 0, .int .i64 0, .slice none 0 0, .int .i64 0, .slice none 0 0] rfl (by kernel_rfl) (by kernel_rfl) (by kernel_rfl)
      (OpenSpec.preRow_of_cond 8 hx (by kernel_rfl) (fun k hk => by cases hk; kernel_rfl) (by kernel_rfl) (lsigns_laid_met os))) ?_
  intro W base args ds gs before hval hW _ hcond _ hL hsh _
  exact lsigns_contract H enc W base args ds gs before hval hW (hcond _ rfl) hL hsh

theorem lsigns_said : Rows.LamportSignsUptoSaid :=
  OpenClaim.holds_of_cond 5 Tryd.f5 rfl rfl rfl rfl rfl rfl rfl ⟨rfl, rfl, rfl, rfl, rfl⟩ rfl rfl rfl rfl rfl (by kernel_rfl) Tryd.func5 (by kernel_rfl)
    (of_decide_eq_true (by kernel_rfl)) (by unfold Func.isWrapper; first | (rw [if_pos (by decide +kernel)]; kernel_rfl) | (rw [if_neg (by decide +kernel)]; exact ⟨rfl, rfl⟩))
    (fun os started H enc _ F => by rw [OpenClaim.pre_eq_preRow]; exact lsigns_lifted os started H enc F)

theorem lsigns_plain (f : FuncId) (fn : Func) (hf : Tryd.pinned.checked.prog.funcNamed Rows.lamportSignsUptoRow.func = some f) (hfn : Tryd.pinned.checked.prog.funcs[f]? = some fn) :
    false = Tryd.pinned.checked.prog.looks [] ∧ ∀ (j : Nat) t, fn.params[j]? = some t → Tryd.pinned.checked.prog.wantsStandIn t = false := by
  obtain rfl : f = 5 := Option.some.inj ((show Tryd.prog.funcNamed Rows.lamportSignsUptoRow.func = some 5 by kernel_rfl).symm.trans hf) |>.symm
  obtain rfl : fn = Tryd.f5 := (Option.some.inj (Tryd.func5.symm.trans hfn)).symm
  refine ⟨by kernel_rfl, fun j t ht => ?_⟩
  rw [Tryd.params5] at ht
  have ht' : t = 3 ∨ t = 24 ∨ t = 3 ∨ t = 24 := by simpa using Array.mem_of_getElem? ht
  rcases ht' with rfl | rfl | rfl | rfl
  · exact (show Tryd.prog.wantsStandIn 3 = false by kernel_rfl)
  · exact (show Tryd.prog.wantsStandIn 24 = false by kernel_rfl)
  · exact (show Tryd.prog.wantsStandIn 3 = false by kernel_rfl)
  · exact (show Tryd.prog.wantsStandIn 24 = false by kernel_rfl)

/-- THE SECOND FORM's CARD. -/
theorem lsigns_card : Rows.LamportSignsUptoCardSaid :=
  Claim7.holds_tied_plain_at .later [] _ _ _ _ lsigns_said (fun _ h => by cases h) (by kernel_rfl) (fun _ h => by cases h) lamportSignsUpto_row_tie rfl ⟨rfl, rfl⟩ (by kernel_rfl) rfl lsigns_plain (by kernel_rfl)
#print axioms lsigns_card
end Go.Proofs.YtjokmlnghpnlbaaDoor

