import Derived.Test.YtjokmlnghpnlbaaDoorPk2
import Derived.Lib.SlBytesConst
import Derived.Deep.RegionHeldLaw
import Derived.Test.YtjokmlnghpnlbaaDoorPk1
import Derived.Test.YtjokmlnghpnlbaaDoorSre
import Derived.Test.YtjokmlnghpnlbaaDoorMae
import Derived.Test.YtjokmlnghpnlbaaDoorSbw
namespace Go.Proofs.YtjokmlnghpnlbaaDoor
open Go.RowKit

set_option maxRecDepth 100000 in
/-- New, of what may not be. -/
theorem lnew_no (j h : Int) (hn : ¬ ((1 ≤ j ∧ j ≤ 32) ∧ 0 ≤ h ∧ h ≤ 6)) (x : Value) (w : World) :
    Calls Tryd.prog 11 #[.int .i64 j, .int .i64 h, x] w fun e w' => e = .returned (.tuple #[.pointer none, .int .i64 1]) ∧ w' = w := by
  have hmay := lmay_any j h w
  rw [decide_eq_false hn] at hmay
  have HC := hide hmay
  clear hmay hn
  go_enter Tryd.func11, Tryd.ntmps11
  go_wp2_with fail
  refine (unhide HC).mono ?_
  rintro e w0 ⟨rfl, rfl⟩
  go_wp2_with fail
  refine bodyPost_ret (v := .tuple #[.pointer none, .int .i64 1]) (by simp [results, Tryd.results11, go_sem]) rfl ?_
  exact ⟨rfl, rfl⟩
set_option maxRecDepth 100000 in
set_option maxHeartbeats 4000000 in
/-- Keys.Sign, of what is no key. -/
theorem lsign_no (wi H kb base tb : Nat) (hH : H ≤ 6) (K : Int) (hK : ¬ (0 ≤ K ∧ K < ((2 ^ H : Nat) : Int))) (x y : Value) (seed : List Nat) (L : List (List Nat)) (w : World) (h : KyAt w kb base tb wi H x seed L) (hL : L.length = 2 ^ H) :
    Calls Tryd.prog 14 #[.pointer (some ⟨kb, 0, none⟩), .int .i64 K, y] w fun e w' => e = .returned (.tuple #[.slice none 0 0, .int .i64 1]) ∧ Fr (fun _ => False) w w' := by
  have hN64 : 2 ^ H ≤ 64 := Nat.pow_le_pow_right (n := 2) (by decide) hH
  have hlen := fun w' (hf : Fr (fun _ => False) w w') => lkeylen_any kb H hH w' (h.fr0 hf).c1
  have hpath := fun w' (hf : Fr (fun _ => False) w w') => tpath_no tb L.length wi K ((2 ^ H : Nat) : Int) w' ((h.fr0 hf).tk (by omega)).c0.1 ((h.fr0 hf).tk (by omega)).c0.2.1 (.inr (by omega))
  have hc3 := fun w' (hf : Fr (fun _ => False) w w') => (h.fr0 hf).c3
  generalize 2 ^ H = N at *
  have HC := hide (And.intro hlen (And.intro hpath hc3))
  clear hlen hpath hc3 h hL hK
  have T1 : True := trivial
  go_enter Tryd.func14, Tryd.ntmps14
  go_wp2_with fail
  go_region_held3 (fun w' => w'.cell? ⟨kb, 3, none⟩ = some (.pointer (some ⟨tb, 0, none⟩)))
    (first | assumption | exact (unhide HC).2.2 _ (Fr.refl _ _).drew | exact (unhide HC).2.2 _ fA)
    (first
      | (go_at_call 12; clear T1; refine ((unhide HC).1 _ (Fr.refl _ _).drew).mono ?_; rintro e wA ⟨rfl, rfl⟩; have fA : Fr (fun _ => False) w w.drew := (Fr.refl _ _).drew)
      | (go_at_call 42; refine ((unhide HC).2.1 _ fA).mono ?_; rintro e wB ⟨rfl, rfl⟩))
  have H1 := hide fA
  clear fA
  go_wp2_with fail
  refine bodyPost_ret (v := .tuple #[.slice none 0 0, .int .i64 1]) (by simp [results, Tryd.results14, go_sem]) rfl ?_
  exact ⟨rfl, unhide H1⟩
theorem sgn_lt (wi K : Nat) (seed h : List Nat) (n : Nat) : ∀ v ∈ sgn wi K seed h n, v < 256 := by
  induction n with
  | zero => intro v hv; cases hv
  | succ n ih =>
    intro v hv
    rw [sgn] at hv
    rcases List.mem_append.1 hv with hv | hv
    · rcases List.mem_append.1 hv with hv | hv
      · exact ih v hv
      · exact sm_lt _ _ v hv
    · exact lk_lt wi K seed _ _ v hv
theorem lvs_lt (wi : Nat) (seed : List Nat) (n : Nat) : ∀ p ∈ lvs wi seed n, ∀ v ∈ p, v < 256 := by
  intro p hp
  obtain ⟨k, _, rfl⟩ := List.mem_map.1 hp
  exact lf_lt _ _
theorem bes_lt (wi : Nat) (L : List (List Nat)) (hL : ∀ p ∈ L, ∀ v ∈ p, v < 256) (m : Nat) : ∀ f n tf tn, n ≤ m → ∀ p ∈ bes wi L f n tf tn, ∀ v ∈ p, v < 256 := by
  induction m with
  | zero => intro f n tf tn h p hp; rw [bes, dif_pos (by omega)] at hp; cases hp
  | succ m ih =>
    intro f n tf tn h p hp
    by_cases e : (f = tf ∧ n = tn) ∨ n < 2
    · rw [bes, dif_pos e] at hp; cases hp
    · have hlt := hf_lt n (by omega)
      have hpos := hf_pos n
      by_cases hl : tf < f + hf n
      · rw [bes_l (by omega) (by omega) hl] at hp
        rcases List.mem_append.1 hp with hp | hp
        · exact ih _ _ _ _ (by omega) p hp
        · simp at hp; subst hp; exact mth_lt _ _ _ (Nat.le_refl _) (fun p hp => hL p (blk_mem _ _ _ p hp))
      · rw [bes_r (by omega) (by omega) hl] at hp
        rcases List.mem_append.1 hp with hp | hp
        · exact ih _ _ _ _ (by omega) p hp
        · simp at hp; subst hp; exact mth_lt _ _ _ (Nat.le_refl _) (fun p hp => hL p (blk_mem _ _ _ p hp))
theorem sig_lt (wi H K : Nat) (seed h : List Nat) : ∀ v ∈ sig wi H K seed h, v < 256 := by
  intro v hv
  rw [sig] at hv
  rcases List.mem_append.1 hv with hv | hv
  · exact sgn_lt _ _ _ _ _ v hv
  · obtain ⟨p, hp, hv⟩ := List.mem_flatten.1 hv
    exact bes_lt wi _ (lvs_lt wi seed _) _ _ _ _ _ (Nat.le_refl _) p hp v hv
theorem pub_lt (wi H : Nat) (seed : List Nat) : ∀ v ∈ mth wi (lvs wi seed (2 ^ H)), v < 256 := mth_lt _ _ _ (Nat.le_refl _) (lvs_lt wi seed _)
theorem pub_len (wi H : Nat) (hw1 : 1 ≤ wi) (hw32 : wi ≤ 32) (seed : List Nat) : (mth wi (lvs wi seed (2 ^ H))).length = wi := mth_wid wi hw1 hw32 _ (lvs_wid wi hw1 hw32 seed _)
/-- Keys.Sign, of a key. -/
theorem lsign_sig (wi H kb base tb K : Nat) (hw1 : 1 ≤ wi) (hw32 : wi ≤ 32) (hH : H ≤ 6) (hK : K < 2 ^ H) (yo : Option Addr) (SN yc : Nat) (seed : List Nat) (w : World) (h : KyAt w kb base tb wi H (.slice yo SN yc) seed (lvs wi seed (2 ^ H))) (hs : seed.length ≤ 1000000000) (x : Value) (m : List Nat) (hx : Sl w x m) (hm : m.length < 9223372036854775808) :
    Calls Tryd.prog 14 #[.pointer (some ⟨kb, 0, none⟩), .int .i64 K, x] w fun e w' => ∃ zo zc, e = .returned (.tuple #[.slice zo (16 * wi * wi + H * wi) zc, .int .i64 0]) ∧ OB w w' zo zc (sig wi H K seed (sm wi m)) := by
  have hl := sig_len wi H K hw1 hw32 hK seed (sm wi m)
  refine (lsign_in wi H kb base tb K hw1 hw32 hH hK yo SN yc seed _ w h (lvs_len wi seed _) hs x m hx hm (bes_wid wi hw1 hw32 _ (lvs_wid wi hw1 hw32 seed _) _ _ _ _ _ (Nat.le_refl _)) (by rw [besH_len wi _ H K hK]; omega)).mono ?_
  rintro e w' ⟨zo, n, zc, rfl, hn, hO⟩
  have e1 : n = 16 * wi * wi + H * wi := by rw [hn, ← hl, sig]
  exact ⟨zo, zc, by rw [e1], hO⟩
end Go.Proofs.YtjokmlnghpnlbaaDoor

namespace Go.Proofs.YtjokmlnghpnlbaaDoor
open Go.RowKit

theorem sl_lit (w : World) (l : List Nat) (cs : Array Value) (t : TypeId) (fz : Nat × Nat) (n : Nat) (hn : n = l.length) (h : cs = (cellsOf l).toArray) (hb : ∀ v ∈ l, v < 256) : Sl (w.alloc (.cells cs t fz)) (.slice (some ⟨w.heap.size, 0, none⟩) n n) l :=
  ⟨src_new w l cs t fz n n hn h, cap_lit, .inr lt_lit, hb⟩
theorem Fr.freeze {S : Nat → Prop} {a w : World} (h : Fr S a w) {p : Addr} (hp : S p.block ∨ a.heap.size ≤ p.block) (n : Nat) : Fr S a (w.freeze p n) := by
  unfold World.freeze
  split
  · exact h
  · refine ⟨h.os, h.tape, h.output, by simpa using h.size, fun k hk hs => ?_⟩
    rw [← h.block k hk hs]
    simp only [Array.getElem?_modify]
    rw [if_neg (fun e => ?_)]
    rcases hp with hp | hp
    · exact hs (e ▸ hp)
    · omega
theorem cell_freeze (w : World) (p : Addr) (n : Nat) (a : Addr) : (w.freeze p n).cell? a = w.cell? a := by
  unfold World.freeze
  split
  · rfl
  · by_cases e : p.block = a.block
    · unfold World.cell?
      simp only [Array.getElem?_modify, if_pos e]
      rcases hq : w.heap[a.block]? with _ | o
      · rfl
      · rcases o with ⟨c, el, lo, hi⟩ | _ <;> rfl
    · unfold World.cell?
      simp only [Array.getElem?_modify, if_neg e]
theorem size_freeze (w : World) (p : Addr) (n : Nat) : (w.freeze p n).heap.size = w.heap.size := by
  unfold World.freeze
  split
  · rfl
  · simp
theorem Sl.freeze {w : World} {x : Value} {l : List Nat} (h : Sl w x l) (p : Addr) (n : Nat) : Sl (w.freeze p n) x l := by
  refine ⟨?_, h.cap, by rw [size_freeze]; exact h.lt, h.b⟩
  rcases h.s with h0 | ⟨g, o, c, e, hc⟩ | h0
  · exact .inl h0
  · exact .inr (.inl ⟨g, o, c, e, fun j v hv => by rw [cell_freeze]; exact hc j v hv⟩)
  · exact .inr (.inr h0)
theorem conv_frz (W : World) (b n c k : Nat) (hsh : W.shape? b = some (5, k)) : (convert 24 24 (.slice (some ⟨b, 0, none⟩) n c)).run Tryd.prog W = .ok (.slice (some ⟨b, 0, none⟩) n c) (W.freeze ⟨b, k, none⟩ 1) := by
  simp [convert, run_underlying Tryd.underlying24, run_underlying Tryd.underlying5, markStringish, hsh]
theorem shape_new {W wP : World} {C : Array Value} {t : TypeId} {fz : Nat × Nat} (hf : Fr (fun _ => False) (W.alloc (.cells C t fz)) wP) : wP.shape? W.heap.size = some (t, C.size) := by
  unfold World.shape?
  rw [hf.block W.heap.size (by simp) (fun h => h)]
  have : (W.alloc (.cells C t fz)).heap[W.heap.size]? = some (.cells C t fz) := by
    show (W.heap.push (.cells C t fz))[W.heap.size]? = _
    simp
  rw [this]
/-- What lives asks for. -/
structure Lv5 : Prop where
  new : ∀ w' x, GS w' → GT w' → Sl w' x [1, 2, 3] → Calls Tryd.prog 11 #[.int .i64 2, .int .i64 1, x] w' fun e w'' => ∃ kb base tb yo yc, e = .returned (.tuple #[.pointer (some ⟨kb, 0, none⟩), .int .i64 0]) ∧ KyAt w'' kb base tb 2 1 (.slice yo 3 yc) [1, 2, 3] (lvs 2 [1, 2, 3] 2) ∧ Fr (fun _ => False) w' w''
  sign : ∀ w' kb base tb yo yc x, KyAt w' kb base tb 2 1 (.slice yo 3 yc) [1, 2, 3] (lvs 2 [1, 2, 3] 2) → Sl w' x [97, 98, 99] → Calls Tryd.prog 14 #[.pointer (some ⟨kb, 0, none⟩), .int .i64 1, x] w' fun e w'' => ∃ zo zc, e = .returned (.tuple #[.slice zo 66 zc, .int .i64 0]) ∧ OB w' w'' zo zc (sig 2 1 1 [1, 2, 3] (sm 2 [97, 98, 99]))
  pub : ∀ w' kb base tb yo yc, KyAt w' kb base tb 2 1 (.slice yo 3 yc) [1, 2, 3] (lvs 2 [1, 2, 3] 2) → Calls Tryd.prog 15 #[.pointer (some ⟨kb, 0, none⟩)] w' fun e w'' => ∃ yo yc, e = .returned (.slice yo 2 yc) ∧ OB w' w'' yo yc (mth 2 (lvs 2 [1, 2, 3] 2))
  size : ∀ w', Calls Tryd.prog 9 #[.int .i64 2, .int .i64 3] w' fun e w'' => e = .returned (.int .i64 70) ∧ w'' = w'
  chk : ∀ w' pv mv sv, GS w' → Sl w' pv (mth 2 (lvs 2 [1, 2, 3] 2)) → Sl w' mv [97, 98, 99] → Sl w' sv (sig 2 1 1 [1, 2, 3] (sm 2 [97, 98, 99])) → Calls Tryd.prog 16 #[.int .i64 2, .int .i64 1, pv, .int .i64 1, mv, sv] w' fun e w'' => e = .returned (.bool true) ∧ Fr (fun _ => False) w' w''
  chn : ∀ w' pv mv sv s, GS w' → Sl w' pv (mth 2 (lvs 2 [1, 2, 3] 2)) → Sl w' mv [97, 98, 99] → Sl w' sv s → s.length = 65 → Calls Tryd.prog 16 #[.int .i64 2, .int .i64 1, pv, .int .i64 1, mv, sv] w' fun e w'' => e = .returned (.bool false) ∧ Fr (fun _ => False) w' w''
  slen : (sig 2 1 1 [1, 2, 3] (sm 2 [97, 98, 99])).length = 66
  sbyt : ∀ v ∈ sig 2 1 1 [1, 2, 3] (sm 2 [97, 98, 99]), v < 256
  plen : (mth 2 (lvs 2 [1, 2, 3] 2)).length = 2
  pbyt : ∀ v ∈ mth 2 (lvs 2 [1, 2, 3] 2), v < 256
theorem lv5 : Lv5 := by
  refine ⟨fun w' x hg ht hx => ?_, fun w' kb base tb yo yc x h hx => ?_, fun w' kb base tb yo yc h => ?_, fun w' => ?_, fun w' pv mv sv hg hp hm hs => ?_, fun w' pv mv sv s hg hp hm hs hl => ?_, ?_, ?_, ?_, ?_⟩
  · exact lnew_in 2 1 (by decide) (by decide) (by decide) x [1, 2, 3] w' hg ht hx (by decide)
  · exact lsign_sig 2 1 kb base tb 1 (by decide) (by decide) (by decide) (by decide) yo 3 yc [1, 2, 3] w' h (by decide) x [97, 98, 99] hx (by decide)
  · exact lpublic_any 2 1 kb base tb (by decide) (by decide) (by decide) _ [1, 2, 3] _ w' h (lvs_len 2 _ _)
  · have := lsize_any 2 3 w'
    have e : szF 2 3 = 70 := by decide
    rw [e] at this
    exact this
  · have := lcheck_any 2 1 1 pv mv sv _ _ _ w' hg hp hm hs (by decide)
    have e : chkL 2 1 (mth 2 (lvs 2 [1, 2, 3] 2)) 1 [97, 98, 99] (sig 2 1 1 [1, 2, 3] (sm 2 [97, 98, 99])) = true := chkL_sig 2 1 1 (by decide) (by decide) (by decide) (by decide) [1, 2, 3] [97, 98, 99]
    rw [e] at this
    exact this
  · have := lcheck_any 2 1 1 pv mv sv _ _ _ w' hg hp hm hs (by decide)
    have e : chkL 2 1 (mth 2 (lvs 2 [1, 2, 3] 2)) 1 [97, 98, 99] s = false := chkL_len 2 1 1 (by decide) (by decide) (by decide) _ _ s (by omega)
    rw [e] at this
    exact this
  · exact sig_len 2 1 1 (by decide) (by decide) (by decide) _ _
  · exact sig_lt _ _ _ _ _
  · exact pub_len 2 1 (by decide) (by decide) _
  · exact pub_lt 2 1 _
theorem OB.sl2 {w wr : World} {xo : Option Addr} {cp n : Nat} {l : List Nat} (h : OB w wr xo cp l) (hb : ∀ v ∈ l, v < 256) (hn : l.length = n) : Sl wr (.slice xo n cp) l := hn ▸ h.sl hb
theorem chk_at (HC : Lv5) {w2 W : World} {pv mv sv : Value} (h : Fr (fun _ => False) w2 W ∧ Sl W pv (mth 2 (lvs 2 [1, 2, 3] 2)) ∧ Sl W mv [97, 98, 99]) (hs : Sl w2 sv (sig 2 1 1 [1, 2, 3] (sm 2 [97, 98, 99]))) (hg : GS w2) :
    Calls Tryd.prog 16 #[.int .i64 2, .int .i64 1, pv, .int .i64 1, mv, sv] W fun e w'' => e = .returned (.bool true) ∧ Fr (fun _ => False) w2 w'' := by
  refine (HC.chk W pv mv sv (hg.fr0 h.1) h.2.1 h.2.2 (hs.fr0 h.1)).mono ?_
  rintro e w'' ⟨rfl, hf⟩
  exact ⟨rfl, h.1.trans hf (fun _ _ h => h)⟩
theorem chn_at (HC : Lv5) {w2 W : World} {pv mv sv : Value} {s : List Nat} (h : Fr (fun _ => False) w2 W ∧ Sl W pv (mth 2 (lvs 2 [1, 2, 3] 2)) ∧ Sl W mv [97, 98, 99]) (hs : Sl w2 sv s) (hl : s.length = 65) (hg : GS w2) :
    Calls Tryd.prog 16 #[.int .i64 2, .int .i64 1, pv, .int .i64 1, mv, sv] W fun e w'' => e = .returned (.bool false) ∧ Fr (fun _ => False) w2 w'' := by
  refine (HC.chn W pv mv sv s (hg.fr0 h.1) h.2.1 h.2.2 (hs.fr0 h.1) hl).mono ?_
  rintro e w'' ⟨rfl, hf⟩
  exact ⟨rfl, h.1.trans hf (fun _ _ h => h)⟩
set_option maxRecDepth 100000 in
set_option maxHeartbeats 4000000 in
/-- lives. -/
theorem lives5_any (w : World) (hg : GS w) (ht : GT w) : Calls Tryd.prog 8 #[] w fun e w' => e = .returned (.bool true) ∧ Fr (fun _ => False) w w' := by
  have hcv := fun (w : World) (C : Array Value) (n c : Nat) => Lib.run_convert_bytes_const (P := Tryd.prog) w 24 5 C n c Tryd.underlying24 Tryd.underlying5
  have hcd : ∀ (w : World) (C : Array Value) (n c : Nat), (convert 24 24 (.slice (some ⟨w.heap.size, 0, none⟩) n c)).run Tryd.prog (w.alloc (.cells C 5)).drew = .ok (.slice (some ⟨w.heap.size, 0, none⟩) n c) (w.alloc (.cells C 5 (C.size, C.size + 1))).drew := fun w C n c => hcv w.drew C n c
  have HC := hide lv5
  have hsl := lv5.slen
  have hsb := lv5.sbyt
  have hpl := lv5.plen
  have hpb := lv5.pbyt
  have HG := hide (And.intro hg ht)
  clear hg ht
  go_enter Tryd.func8, Tryd.ntmps8
  go_wp2_with fail
  refine ((unhide HC).new _ _ ((unhide HG).1.fr0 ((Fr.refl _ _).alloc _)) ((unhide HG).2.fr0 ((Fr.refl _ _).alloc _)) (sl_lit w [1, 2, 3] _ _ _ _ rfl rfl (by decide))).mono ?_
  rintro e w1 ⟨kb, base, tb, yo, yc, rfl, hK, hF1⟩
  have H1 := hide (And.intro hK (((Fr.refl _ w).alloc _).trans hF1 (fun _ _ h => h)))
  clear hK hF1
  go_wp2_with fail
  refine ((unhide HC).sign _ _ _ _ _ _ _ ((unhide H1).1.fr0 ((Fr.refl _ _).alloc _)) (sl_lit w1 [97, 98, 99] _ _ _ _ rfl rfl (by decide))).mono ?_
  rintro e w2 ⟨zo, zc, rfl, hO2⟩
  have hFa := ((Fr.refl _ w1).alloc _).trans hO2.fr (fun _ _ h => h)
  have H2 := hide (And.intro ((unhide H1).1.fr0 hFa) (And.intro hO2 ((unhide H1).2.trans hFa (fun _ _ h => h))))
  clear hO2 hFa
  obtain ⟨zg, rfl, _, _, hzc, _⟩ := (unhide H2).2.1.at_ (by rw [hsl]; decide)
  rw [hsl] at hzc
  have hzs := (unhide H2).2.1.sl hsb
  rw [hsl] at hzs
  have hzs1 := hzs.sub 1 65 (by rw [hsl]; decide)
  have hl65 : (((sig 2 1 1 [1, 2, 3] (sm 2 [97, 98, 99])).drop 1).take 65).length = 65 := by rw [List.length_take, List.length_drop, hsl]; decide
  generalize ((sig 2 1 1 [1, 2, 3] (sm 2 [97, 98, 99])).drop 1).take 65 = S1 at *
  have H3 := hide (And.intro (unhide H2).1 (And.intro hzs (And.intro hzs1 (And.intro (unhide H2).2.2 (And.intro ((unhide HG).1.fr0 (unhide H2).2.2) (And.intro hl65 (And.intro hpl hpb)))))))
  clear hzs hzs1 hl65 H2 hsl hsb hpl hpb H1 HG
  have hz1 : (1 : Int) ≤ (zc : Int) := by omega
  have hz2 : ¬ zc = 1 := by omega
  go_wp2_with fail
  go_region_held_law (fun _ => True)
    (first | trivial)
    (first
      | (go_at_call 9; refine ((unhide HC).size _).mono ?_; rintro e wX ⟨rfl, rfl⟩)
      | (go_at_call 15; refine ((unhide HC).pub _ _ _ _ _ _ ((unhide H3).1.fr0 (by first | exact (Fr.refl _ _).drew | exact (Fr.refl _ _).drew.alloc _))).mono ?_; rintro e wP ⟨po, pc, rfl, hP⟩; try have hcx := conv_frz wP w2.heap.size 3 3 3 (shape_new (W := w2.drew) hP.fr))
      | (go_at_call 16; refine (chk_at (unhide HC) (by first | exact ⟨((Fr.refl _ _).drew.trans hP.fr (fun _ _ h => h)).alloc _, (hP.sl2 (unhide H3).2.2.2.2.2.2.2 (unhide H3).2.2.2.2.2.2.1).fr0 ((Fr.refl _ _).alloc _), sl_lit wP [97, 98, 99] _ _ _ _ rfl rfl (by decide)⟩ | exact ⟨(((Fr.refl _ _).drew.alloc _).trans hP.fr (fun _ _ h => h)).freeze (.inr (Nat.le_refl _)) _, (hP.sl2 (unhide H3).2.2.2.2.2.2.2 (unhide H3).2.2.2.2.2.2.1).freeze _ _, ((sl_lit w2.drew [97, 98, 99] _ _ _ _ rfl rfl (by decide)).fr0 hP.fr).freeze _ _⟩ | exact ⟨((Fr.refl _ _).drew.alloc _).trans hP.fr (fun _ _ h => h), hP.sl2 (unhide H3).2.2.2.2.2.2.2 (unhide H3).2.2.2.2.2.2.1, (sl_lit w2.drew [97, 98, 99] _ _ _ _ rfl rfl (by decide)).fr0 hP.fr⟩) (unhide H3).2.1 (unhide H3).2.2.2.2.1).mono ?_; rintro e wC ⟨rfl, hC⟩; have H4 := hide (And.intro ((unhide H3).1.fr0 hC) (And.intro ((unhide H3).2.1.fr0 hC) (And.intro ((unhide H3).2.2.1.fr0 hC) (And.intro ((unhide H3).2.2.2.1.trans hC (fun _ _ h => h)) (And.intro ((unhide H3).2.2.2.2.1.fr0 hC) (And.intro (unhide H3).2.2.2.2.2.1 (unhide H3).2.2.2.2.2.2)))))); clear hC hP H3; try clear hcx)
      | (go_at_call 15; refine ((unhide HC).pub _ _ _ _ _ _ ((unhide H4).1.fr0 (by first | exact (Fr.refl _ _) | exact (Fr.refl _ _).alloc _))).mono ?_; rintro e wP ⟨po, pc, rfl, hP⟩; try have hcx := conv_frz wP wC.heap.size 3 3 3 (shape_new (W := wC) hP.fr))
      | (go_at_call 16; refine (chn_at (unhide HC) (by first | exact ⟨((Fr.refl _ _).trans hP.fr (fun _ _ h => h)).alloc _, (hP.sl2 (unhide H4).2.2.2.2.2.2.2 (unhide H4).2.2.2.2.2.2.1).fr0 ((Fr.refl _ _).alloc _), sl_lit wP [97, 98, 99] _ _ _ _ rfl rfl (by decide)⟩ | exact ⟨(((Fr.refl _ _).alloc _).trans hP.fr (fun _ _ h => h)).freeze (.inr (Nat.le_refl _)) _, (hP.sl2 (unhide H4).2.2.2.2.2.2.2 (unhide H4).2.2.2.2.2.2.1).freeze _ _, ((sl_lit wC [97, 98, 99] _ _ _ _ rfl rfl (by decide)).fr0 hP.fr).freeze _ _⟩ | exact ⟨((Fr.refl _ _).alloc _).trans hP.fr (fun _ _ h => h), hP.sl2 (unhide H4).2.2.2.2.2.2.2 (unhide H4).2.2.2.2.2.2.1, (sl_lit wC [97, 98, 99] _ _ _ _ rfl rfl (by decide)).fr0 hP.fr⟩) (unhide H4).2.2.1 (unhide H4).2.2.2.2.2.1 (unhide H4).2.2.2.2.1).mono ?_; rintro e wD ⟨rfl, hD⟩; have H5 := hide ((unhide H4).2.2.2.1.trans hD (fun _ _ h => h)); clear hD hP; try clear hcx))
  all_goals go_wp2_with fail
  all_goals go_ret
  all_goals exact ⟨rfl, unhide H5⟩
end Go.Proofs.YtjokmlnghpnlbaaDoor

namespace Go.Proofs.YtjokmlnghpnlbaaDoor
open Go.RowKit

/-- The locks of n bits, from a on. -/
def seg (f : Nat → Nat → List Nat) (a : Nat) : Nat → List Nat
  | 0 => []
  | n + 1 => seg f a n ++ f (a + n) 0 ++ f (a + n) 1
theorem ent_seg (f : Nat → Nat → List Nat) (a n : Nat) : ent f (a + n) = ent f a ++ seg f a n := by
  induction n with
  | zero => simp [seg]
  | succ n ih => rw [← Nat.add_assoc, ent, ih, seg]; simp
end Go.Proofs.YtjokmlnghpnlbaaDoor

namespace Go.Proofs.YtjokmlnghpnlbaaDoor
open Go.RowKit

set_option maxRecDepth 100000 in
theorem sgk0_0 : seg (lk 4 0 [1, 2, 3]) 0 8 = [70, 85, 180, 207, 55, 223, 65, 165, 23, 193, 162, 145, 199, 242, 58, 127, 102, 179, 209, 57, 236, 50, 196, 161, 184, 102, 152, 215, 224, 95, 96, 99, 165, 30, 46, 220, 99, 232, 34, 252, 16, 71, 160, 53, 30, 52, 226, 242, 178, 139, 42, 131, 249, 130, 58, 79, 255, 120, 171, 160, 193, 75, 117, 172] := by decide +kernel
end Go.Proofs.YtjokmlnghpnlbaaDoor

namespace Go.Proofs.YtjokmlnghpnlbaaDoor
open Go.RowKit

set_option maxRecDepth 100000 in
theorem sgk0_1 : seg (lk 4 0 [1, 2, 3]) 8 8 = [127, 79, 125, 85, 89, 74, 222, 17, 110, 177, 236, 82, 254, 141, 156, 76, 194, 228, 80, 81, 21, 79, 239, 224, 133, 58, 107, 73, 158, 91, 244, 111, 146, 18, 33, 112, 143, 93, 104, 103, 252, 80, 82, 239, 230, 19, 91, 172, 139, 233, 205, 212, 231, 249, 131, 206, 42, 101, 181, 23, 147, 4, 60, 139] := by decide +kernel
end Go.Proofs.YtjokmlnghpnlbaaDoor

namespace Go.Proofs.YtjokmlnghpnlbaaDoor
open Go.RowKit

set_option maxRecDepth 100000 in
theorem sgk0_2 : seg (lk 4 0 [1, 2, 3]) 16 8 = [29, 111, 218, 139, 251, 200, 187, 32, 196, 143, 123, 14, 141, 214, 80, 43, 87, 57, 40, 95, 144, 184, 18, 144, 2, 85, 145, 200, 243, 132, 147, 29, 104, 76, 162, 224, 67, 140, 43, 51, 102, 167, 31, 107, 239, 105, 15, 198, 28, 130, 177, 20, 13, 253, 46, 249, 130, 224, 110, 10, 23, 148, 148, 44] := by decide +kernel
end Go.Proofs.YtjokmlnghpnlbaaDoor

namespace Go.Proofs.YtjokmlnghpnlbaaDoor
open Go.RowKit

set_option maxRecDepth 100000 in
theorem sgk0_3 : seg (lk 4 0 [1, 2, 3]) 24 8 = [199, 254, 31, 29, 168, 166, 79, 6, 174, 233, 4, 87, 190, 93, 64, 245, 7, 226, 44, 245, 201, 55, 35, 23, 226, 30, 85, 224, 150, 96, 166, 117, 232, 212, 224, 21, 97, 206, 214, 146, 174, 95, 71, 74, 136, 178, 52, 242, 177, 251, 64, 246, 153, 27, 109, 130, 77, 164, 64, 18, 247, 41, 31, 144] := by decide +kernel
end Go.Proofs.YtjokmlnghpnlbaaDoor

namespace Go.Proofs.YtjokmlnghpnlbaaDoor
open Go.RowKit

set_option maxRecDepth 100000 in
theorem sgk1_0 : seg (lk 4 1 [1, 2, 3]) 0 8 = [231, 19, 144, 161, 147, 19, 194, 140, 6, 177, 201, 187, 186, 41, 240, 39, 78, 99, 238, 143, 137, 40, 97, 97, 243, 196, 105, 175, 170, 202, 95, 27, 254, 188, 212, 6, 200, 248, 106, 69, 27, 209, 13, 254, 12, 77, 56, 122, 253, 112, 5, 180, 43, 214, 147, 21, 112, 32, 244, 255, 34, 118, 219, 144] := by decide +kernel
end Go.Proofs.YtjokmlnghpnlbaaDoor

namespace Go.Proofs.YtjokmlnghpnlbaaDoor
open Go.RowKit

set_option maxRecDepth 100000 in
theorem sgk1_1 : seg (lk 4 1 [1, 2, 3]) 8 8 = [198, 78, 183, 56, 248, 3, 232, 2, 15, 146, 193, 221, 189, 69, 114, 39, 164, 247, 161, 136, 19, 115, 124, 75, 22, 13, 165, 69, 40, 83, 23, 210, 42, 192, 36, 115, 6, 63, 51, 78, 147, 222, 193, 80, 140, 18, 154, 134, 35, 72, 0, 173, 77, 169, 105, 229, 204, 142, 165, 39, 234, 107, 176, 174] := by decide +kernel
end Go.Proofs.YtjokmlnghpnlbaaDoor

namespace Go.Proofs.YtjokmlnghpnlbaaDoor
open Go.RowKit

set_option maxRecDepth 100000 in
theorem sgk1_2 : seg (lk 4 1 [1, 2, 3]) 16 8 = [126, 201, 154, 204, 84, 130, 230, 101, 205, 230, 237, 4, 181, 37, 13, 83, 178, 41, 128, 98, 192, 34, 4, 162, 135, 117, 30, 156, 123, 80, 31, 129, 48, 194, 169, 129, 170, 10, 36, 196, 222, 213, 34, 218, 1, 43, 16, 209, 249, 188, 242, 100, 225, 99, 87, 60, 16, 73, 98, 79, 93, 53, 48, 102] := by decide +kernel
end Go.Proofs.YtjokmlnghpnlbaaDoor

namespace Go.Proofs.YtjokmlnghpnlbaaDoor
open Go.RowKit

set_option maxRecDepth 100000 in
theorem sgk1_3 : seg (lk 4 1 [1, 2, 3]) 24 8 = [224, 154, 28, 126, 194, 42, 65, 150, 94, 175, 13, 222, 20, 94, 248, 183, 42, 196, 102, 244, 43, 175, 100, 134, 145, 143, 31, 212, 234, 177, 42, 206, 61, 242, 122, 212, 78, 39, 77, 203, 5, 41, 185, 91, 162, 6, 189, 76, 134, 5, 71, 241, 168, 170, 245, 2, 109, 37, 202, 171, 230, 81, 179, 113] := by decide +kernel
end Go.Proofs.YtjokmlnghpnlbaaDoor

namespace Go.Proofs.YtjokmlnghpnlbaaDoor
open Go.RowKit

set_option maxRecDepth 100000 in
theorem sgk2_0 : seg (lk 4 2 [1, 2, 3]) 0 8 = [111, 142, 24, 113, 94, 218, 187, 195, 28, 114, 119, 148, 43, 117, 244, 2, 232, 130, 195, 98, 118, 24, 155, 118, 6, 31, 133, 233, 235, 84, 42, 250, 71, 108, 7, 33, 10, 35, 93, 215, 156, 85, 248, 155, 138, 180, 80, 139, 161, 52, 87, 32, 115, 73, 225, 34, 122, 15, 229, 253, 221, 20, 54, 201] := by decide +kernel
end Go.Proofs.YtjokmlnghpnlbaaDoor

namespace Go.Proofs.YtjokmlnghpnlbaaDoor
open Go.RowKit

set_option maxRecDepth 100000 in
theorem sgk2_1 : seg (lk 4 2 [1, 2, 3]) 8 8 = [151, 147, 162, 119, 229, 212, 251, 51, 231, 247, 158, 61, 66, 86, 137, 16, 157, 171, 143, 134, 175, 238, 186, 129, 66, 75, 185, 192, 52, 108, 177, 250, 212, 175, 128, 153, 132, 98, 41, 253, 31, 129, 154, 76, 240, 76, 106, 149, 68, 29, 35, 102, 113, 9, 234, 169, 134, 222, 155, 6, 234, 75, 92, 108] := by decide +kernel
end Go.Proofs.YtjokmlnghpnlbaaDoor

namespace Go.Proofs.YtjokmlnghpnlbaaDoor
open Go.RowKit

set_option maxRecDepth 100000 in
theorem sgk2_2 : seg (lk 4 2 [1, 2, 3]) 16 8 = [79, 195, 249, 114, 249, 73, 197, 27, 218, 27, 54, 80, 164, 196, 119, 110, 24, 0, 219, 156, 57, 206, 110, 153, 66, 249, 130, 246, 122, 136, 43, 195, 37, 218, 65, 41, 225, 144, 33, 89, 101, 1, 94, 88, 122, 239, 180, 137, 132, 247, 153, 19, 117, 51, 80, 121, 255, 144, 147, 37, 222, 75, 131, 207] := by decide +kernel
end Go.Proofs.YtjokmlnghpnlbaaDoor

namespace Go.Proofs.YtjokmlnghpnlbaaDoor
open Go.RowKit

set_option maxRecDepth 100000 in
theorem sgk2_3 : seg (lk 4 2 [1, 2, 3]) 24 8 = [128, 166, 86, 233, 125, 170, 128, 26, 16, 246, 235, 74, 148, 72, 119, 141, 63, 32, 36, 169, 179, 127, 74, 182, 111, 142, 215, 168, 5, 122, 103, 28, 201, 209, 226, 219, 73, 159, 140, 123, 93, 80, 190, 166, 219, 13, 231, 70, 240, 88, 183, 62, 219, 151, 224, 232, 219, 149, 7, 120, 165, 35, 149, 244] := by decide +kernel
end Go.Proofs.YtjokmlnghpnlbaaDoor

namespace Go.Proofs.YtjokmlnghpnlbaaDoor
open Go.RowKit

set_option maxRecDepth 100000 in
theorem sgk3_0 : seg (lk 4 3 [1, 2, 3]) 0 8 = [131, 189, 119, 93, 85, 7, 183, 173, 179, 94, 76, 53, 20, 151, 94, 11, 212, 36, 216, 55, 88, 185, 100, 103, 228, 248, 97, 152, 199, 243, 88, 147, 201, 208, 202, 91, 106, 90, 120, 105, 92, 128, 56, 228, 227, 176, 133, 35, 152, 162, 43, 187, 213, 223, 64, 124, 52, 103, 130, 209, 138, 254, 157, 171] := by decide +kernel
end Go.Proofs.YtjokmlnghpnlbaaDoor

namespace Go.Proofs.YtjokmlnghpnlbaaDoor
open Go.RowKit

set_option maxRecDepth 100000 in
theorem sgk3_1 : seg (lk 4 3 [1, 2, 3]) 8 8 = [247, 62, 243, 168, 39, 12, 246, 99, 225, 81, 99, 177, 245, 78, 197, 64, 120, 108, 245, 158, 48, 100, 82, 8, 176, 71, 200, 51, 53, 147, 27, 13, 35, 244, 249, 120, 166, 46, 151, 233, 44, 9, 2, 249, 222, 116, 254, 204, 170, 88, 213, 178, 201, 142, 188, 60, 125, 27, 152, 149, 31, 22, 175, 62] := by decide +kernel
end Go.Proofs.YtjokmlnghpnlbaaDoor

namespace Go.Proofs.YtjokmlnghpnlbaaDoor
open Go.RowKit

set_option maxRecDepth 100000 in
theorem sgk3_2 : seg (lk 4 3 [1, 2, 3]) 16 8 = [41, 37, 81, 201, 251, 163, 124, 11, 58, 192, 222, 171, 40, 88, 107, 128, 20, 161, 118, 161, 61, 62, 77, 61, 54, 166, 180, 79, 22, 87, 57, 245, 190, 140, 179, 155, 211, 51, 14, 9, 214, 160, 228, 205, 85, 230, 244, 147, 81, 49, 195, 48, 251, 123, 193, 166, 224, 236, 113, 235, 182, 31, 58, 64] := by decide +kernel
end Go.Proofs.YtjokmlnghpnlbaaDoor

namespace Go.Proofs.YtjokmlnghpnlbaaDoor
open Go.RowKit

set_option maxRecDepth 100000 in
theorem sgk3_3 : seg (lk 4 3 [1, 2, 3]) 24 8 = [168, 40, 139, 175, 217, 99, 220, 150, 225, 162, 119, 137, 239, 72, 45, 109, 197, 51, 235, 160, 137, 83, 175, 41, 139, 163, 228, 187, 205, 24, 164, 153, 39, 238, 105, 51, 112, 119, 159, 226, 207, 31, 58, 112, 147, 234, 203, 59, 147, 16, 141, 39, 233, 167, 251, 36, 17, 10, 81, 64, 81, 181, 154, 168] := by decide +kernel
end Go.Proofs.YtjokmlnghpnlbaaDoor

namespace Go.Proofs.YtjokmlnghpnlbaaDoor
open Go.RowKit

theorem eN4_0 : eN 4 [1, 2, 3] 0 = [70, 85, 180, 207, 55, 223, 65, 165, 23, 193, 162, 145, 199, 242, 58, 127, 102, 179, 209, 57, 236, 50, 196, 161, 184, 102, 152, 215, 224, 95, 96, 99, 165, 30, 46, 220, 99, 232, 34, 252, 16, 71, 160, 53, 30, 52, 226, 242, 178, 139, 42, 131, 249, 130, 58, 79, 255, 120, 171, 160, 193, 75, 117, 172, 127, 79, 125, 85, 89, 74, 222, 17, 110, 177, 236, 82, 254, 141, 156, 76, 194, 228, 80, 81, 21, 79, 239, 224, 133, 58, 107, 73, 158, 91, 244, 111, 146, 18, 33, 112, 143, 93, 104, 103, 252, 80, 82, 239, 230, 19, 91, 172, 139, 233, 205, 212, 231, 249, 131, 206, 42, 101, 181, 23, 147, 4, 60, 139, 29, 111, 218, 139, 251, 200, 187, 32, 196, 143, 123, 14, 141, 214, 80, 43, 87, 57, 40, 95, 144, 184, 18, 144, 2, 85, 145, 200, 243, 132, 147, 29, 104, 76, 162, 224, 67, 140, 43, 51, 102, 167, 31, 107, 239, 105, 15, 198, 28, 130, 177, 20, 13, 253, 46, 249, 130, 224, 110, 10, 23, 148, 148, 44, 199, 254, 31, 29, 168, 166, 79, 6, 174, 233, 4, 87, 190, 93, 64, 245, 7, 226, 44, 245, 201, 55, 35, 23, 226, 30, 85, 224, 150, 96, 166, 117, 232, 212, 224, 21, 97, 206, 214, 146, 174, 95, 71, 74, 136, 178, 52, 242, 177, 251, 64, 246, 153, 27, 109, 130, 77, 164, 64, 18, 247, 41, 31, 144] := by
  rw [eN, show 8 * 4 = 0 + 8 + 8 + 8 + 8 from rfl, ent_seg, ent_seg, ent_seg, ent_seg, show 0 + 8 + 8 + 8 = 24 from rfl, show 0 + 8 + 8 = 16 from rfl, show 0 + 8 = 8 from rfl, sgk0_0, sgk0_1, sgk0_2, sgk0_3]; rfl
set_option maxRecDepth 100000 in
theorem lf4_0 : lf ((4 : Nat) : Int) (eN 4 [1, 2, 3] 0) = [19, 93, 223, 40] := by rw [eN4_0]; decide +kernel
theorem eN4_1 : eN 4 [1, 2, 3] 1 = [231, 19, 144, 161, 147, 19, 194, 140, 6, 177, 201, 187, 186, 41, 240, 39, 78, 99, 238, 143, 137, 40, 97, 97, 243, 196, 105, 175, 170, 202, 95, 27, 254, 188, 212, 6, 200, 248, 106, 69, 27, 209, 13, 254, 12, 77, 56, 122, 253, 112, 5, 180, 43, 214, 147, 21, 112, 32, 244, 255, 34, 118, 219, 144, 198, 78, 183, 56, 248, 3, 232, 2, 15, 146, 193, 221, 189, 69, 114, 39, 164, 247, 161, 136, 19, 115, 124, 75, 22, 13, 165, 69, 40, 83, 23, 210, 42, 192, 36, 115, 6, 63, 51, 78, 147, 222, 193, 80, 140, 18, 154, 134, 35, 72, 0, 173, 77, 169, 105, 229, 204, 142, 165, 39, 234, 107, 176, 174, 126, 201, 154, 204, 84, 130, 230, 101, 205, 230, 237, 4, 181, 37, 13, 83, 178, 41, 128, 98, 192, 34, 4, 162, 135, 117, 30, 156, 123, 80, 31, 129, 48, 194, 169, 129, 170, 10, 36, 196, 222, 213, 34, 218, 1, 43, 16, 209, 249, 188, 242, 100, 225, 99, 87, 60, 16, 73, 98, 79, 93, 53, 48, 102, 224, 154, 28, 126, 194, 42, 65, 150, 94, 175, 13, 222, 20, 94, 248, 183, 42, 196, 102, 244, 43, 175, 100, 134, 145, 143, 31, 212, 234, 177, 42, 206, 61, 242, 122, 212, 78, 39, 77, 203, 5, 41, 185, 91, 162, 6, 189, 76, 134, 5, 71, 241, 168, 170, 245, 2, 109, 37, 202, 171, 230, 81, 179, 113] := by
  rw [eN, show 8 * 4 = 0 + 8 + 8 + 8 + 8 from rfl, ent_seg, ent_seg, ent_seg, ent_seg, show 0 + 8 + 8 + 8 = 24 from rfl, show 0 + 8 + 8 = 16 from rfl, show 0 + 8 = 8 from rfl, sgk1_0, sgk1_1, sgk1_2, sgk1_3]; rfl
set_option maxRecDepth 100000 in
theorem lf4_1 : lf ((4 : Nat) : Int) (eN 4 [1, 2, 3] 1) = [2, 132, 103, 168] := by rw [eN4_1]; decide +kernel
theorem eN4_2 : eN 4 [1, 2, 3] 2 = [111, 142, 24, 113, 94, 218, 187, 195, 28, 114, 119, 148, 43, 117, 244, 2, 232, 130, 195, 98, 118, 24, 155, 118, 6, 31, 133, 233, 235, 84, 42, 250, 71, 108, 7, 33, 10, 35, 93, 215, 156, 85, 248, 155, 138, 180, 80, 139, 161, 52, 87, 32, 115, 73, 225, 34, 122, 15, 229, 253, 221, 20, 54, 201, 151, 147, 162, 119, 229, 212, 251, 51, 231, 247, 158, 61, 66, 86, 137, 16, 157, 171, 143, 134, 175, 238, 186, 129, 66, 75, 185, 192, 52, 108, 177, 250, 212, 175, 128, 153, 132, 98, 41, 253, 31, 129, 154, 76, 240, 76, 106, 149, 68, 29, 35, 102, 113, 9, 234, 169, 134, 222, 155, 6, 234, 75, 92, 108, 79, 195, 249, 114, 249, 73, 197, 27, 218, 27, 54, 80, 164, 196, 119, 110, 24, 0, 219, 156, 57, 206, 110, 153, 66, 249, 130, 246, 122, 136, 43, 195, 37, 218, 65, 41, 225, 144, 33, 89, 101, 1, 94, 88, 122, 239, 180, 137, 132, 247, 153, 19, 117, 51, 80, 121, 255, 144, 147, 37, 222, 75, 131, 207, 128, 166, 86, 233, 125, 170, 128, 26, 16, 246, 235, 74, 148, 72, 119, 141, 63, 32, 36, 169, 179, 127, 74, 182, 111, 142, 215, 168, 5, 122, 103, 28, 201, 209, 226, 219, 73, 159, 140, 123, 93, 80, 190, 166, 219, 13, 231, 70, 240, 88, 183, 62, 219, 151, 224, 232, 219, 149, 7, 120, 165, 35, 149, 244] := by
  rw [eN, show 8 * 4 = 0 + 8 + 8 + 8 + 8 from rfl, ent_seg, ent_seg, ent_seg, ent_seg, show 0 + 8 + 8 + 8 = 24 from rfl, show 0 + 8 + 8 = 16 from rfl, show 0 + 8 = 8 from rfl, sgk2_0, sgk2_1, sgk2_2, sgk2_3]; rfl
set_option maxRecDepth 100000 in
theorem lf4_2 : lf ((4 : Nat) : Int) (eN 4 [1, 2, 3] 2) = [209, 40, 10, 12] := by rw [eN4_2]; decide +kernel
theorem eN4_3 : eN 4 [1, 2, 3] 3 = [131, 189, 119, 93, 85, 7, 183, 173, 179, 94, 76, 53, 20, 151, 94, 11, 212, 36, 216, 55, 88, 185, 100, 103, 228, 248, 97, 152, 199, 243, 88, 147, 201, 208, 202, 91, 106, 90, 120, 105, 92, 128, 56, 228, 227, 176, 133, 35, 152, 162, 43, 187, 213, 223, 64, 124, 52, 103, 130, 209, 138, 254, 157, 171, 247, 62, 243, 168, 39, 12, 246, 99, 225, 81, 99, 177, 245, 78, 197, 64, 120, 108, 245, 158, 48, 100, 82, 8, 176, 71, 200, 51, 53, 147, 27, 13, 35, 244, 249, 120, 166, 46, 151, 233, 44, 9, 2, 249, 222, 116, 254, 204, 170, 88, 213, 178, 201, 142, 188, 60, 125, 27, 152, 149, 31, 22, 175, 62, 41, 37, 81, 201, 251, 163, 124, 11, 58, 192, 222, 171, 40, 88, 107, 128, 20, 161, 118, 161, 61, 62, 77, 61, 54, 166, 180, 79, 22, 87, 57, 245, 190, 140, 179, 155, 211, 51, 14, 9, 214, 160, 228, 205, 85, 230, 244, 147, 81, 49, 195, 48, 251, 123, 193, 166, 224, 236, 113, 235, 182, 31, 58, 64, 168, 40, 139, 175, 217, 99, 220, 150, 225, 162, 119, 137, 239, 72, 45, 109, 197, 51, 235, 160, 137, 83, 175, 41, 139, 163, 228, 187, 205, 24, 164, 153, 39, 238, 105, 51, 112, 119, 159, 226, 207, 31, 58, 112, 147, 234, 203, 59, 147, 16, 141, 39, 233, 167, 251, 36, 17, 10, 81, 64, 81, 181, 154, 168] := by
  rw [eN, show 8 * 4 = 0 + 8 + 8 + 8 + 8 from rfl, ent_seg, ent_seg, ent_seg, ent_seg, show 0 + 8 + 8 + 8 = 24 from rfl, show 0 + 8 + 8 = 16 from rfl, show 0 + 8 = 8 from rfl, sgk3_0, sgk3_1, sgk3_2, sgk3_3]; rfl
set_option maxRecDepth 100000 in
theorem lf4_3 : lf ((4 : Nat) : Int) (eN 4 [1, 2, 3] 3) = [166, 211, 140, 187] := by rw [eN4_3]; decide +kernel
theorem lvs4 : lvs 4 [1, 2, 3] 4 = [[19, 93, 223, 40], [2, 132, 103, 168], [209, 40, 10, 12], [166, 211, 140, 187]] := by
  have e : lvs 4 [1, 2, 3] 4 = [lf ((4 : Nat) : Int) (eN 4 [1, 2, 3] 0), lf ((4 : Nat) : Int) (eN 4 [1, 2, 3] 1), lf ((4 : Nat) : Int) (eN 4 [1, 2, 3] 2), lf ((4 : Nat) : Int) (eN 4 [1, 2, 3] 3)] := rfl
  rw [e, lf4_0, lf4_1, lf4_2, lf4_3]
theorem nd4_01 : nd ((4 : Nat) : Int) [19, 93, 223, 40] [2, 132, 103, 168] = [91, 125, 253, 12] := by decide +kernel
theorem nd4_23 : nd ((4 : Nat) : Int) [209, 40, 10, 12] [166, 211, 140, 187] = [24, 211, 104, 102] := by decide +kernel
theorem nd4_03 : nd ((4 : Nat) : Int) [91, 125, 253, 12] [24, 211, 104, 102] = [70, 176, 140, 31] := by decide +kernel
theorem h4_4 : hf 4 = 2 := hf_uniq 4 1 (by decide) (by decide)
theorem h4_2 : hf 2 = 1 := hf_uniq 2 0 (by decide) (by decide)
theorem mth_pair (a b : List Nat) : mth ((4 : Nat) : Int) [a, b] = nd ((4 : Nat) : Int) a b := by
  rw [mth_two _ _ (by simp)]
  show nd _ (mth _ (List.take (hf 2) [a, b])) (mth _ (List.drop (hf 2) [a, b])) = _
  rw [h4_2]
  show nd _ (mth _ [a]) (mth _ [b]) = _
  rw [mth_one, mth_one]
theorem pub4 : mth ((4 : Nat) : Int) (lvs 4 [1, 2, 3] 4) = [70, 176, 140, 31] := by
  rw [lvs4, mth_two _ _ (by decide)]
  show nd _ (mth _ (List.take (hf 4) _)) (mth _ (List.drop (hf 4) _)) = _
  rw [h4_4]
  show nd _ (mth _ [[19, 93, 223, 40], [2, 132, 103, 168]]) (mth _ [[209, 40, 10, 12], [166, 211, 140, 187]]) = _
  rw [mth_pair, mth_pair, nd4_01, nd4_23, nd4_03]
theorem bes4 : bes 4 (lvs 4 [1, 2, 3] 4) 0 4 3 1 = [[209, 40, 10, 12], [91, 125, 253, 12]] := by
  rw [bes_r (by decide) (by decide) (by rw [h4_4]; decide), h4_4]
  show bes 4 _ 2 2 3 1 ++ _ = _
  rw [bes_r (by decide) (by decide) (by rw [h4_2]; decide), h4_2]
  show bes 4 _ 3 1 3 1 ++ _ ++ _ = _
  rw [bes_eq, lvs4]
  show [] ++ [mth _ [[209, 40, 10, 12]]] ++ [mth _ [[19, 93, 223, 40], [2, 132, 103, 168]]] = _
  rw [mth_one, mth_pair, nd4_01]; rfl
theorem topv4_2 (r a b : List Nat) : topv 4 r 0 4 2 1 [a, b] = nd ((4 : Nat) : Int) b (nd ((4 : Nat) : Int) r a) := by
  rw [topv_r (by decide) (by decide) (by rw [h4_4]; decide), h4_4]
  show nd _ b (topv 4 r 2 2 2 1 [a]) = _
  rw [topv_l (by decide) (by decide) (by rw [h4_2]; decide), h4_2]
  show nd _ b (nd _ (topv 4 r 2 1 2 1 []) a) = _
  rw [topv_eq]
theorem topv4_3 (r a b : List Nat) : topv 4 r 0 4 3 1 [a, b] = nd ((4 : Nat) : Int) b (nd ((4 : Nat) : Int) a r) := by
  rw [topv_r (by decide) (by decide) (by rw [h4_4]; decide), h4_4]
  show nd _ b (topv 4 r 2 2 3 1 [a]) = _
  rw [topv_r (by decide) (by decide) (by rw [h4_2]; decide), h4_2]
  show nd _ b (nd _ a (topv 4 r 3 1 3 1 [])) = _
  rw [topv_eq]
theorem chkP_no (j : Int) (leaf : List Nat) (i n : Int) (ps : List (List Nat)) (root : List Nat) (h : ¬ topv j.toNat leaf 0 n.toNat i.toNat 1 ps = root) : chkP j leaf i n ps root = false := by simp [chkP, h]
/-- Check at a signature that a key told: whatever place and message are asked for. -/
theorem chk5_at (wi H K : Nat) (hw1 : 1 ≤ wi) (hw32 : wi ≤ 32) (hK : K < 2 ^ H) (seed h m pub : List Nat) (i : Int) : chk5 wi H pub i m (sig wi H K seed h) = chkP wi (lf wi (ent (lt5 wi (sm wi m) (sgn wi K seed h (8 * wi))) (8 * wi))) i ((2 ^ H : Nat) : Int) (bes wi (lvs wi seed (2 ^ H)) 0 (2 ^ H) K 1) pub := by
  have h0 : (sgn wi K seed h (8 * wi)).length = 16 * wi * wi := by rw [sgn_len wi K hw1 hw32, ← Nat.mul_assoc]
  have hwd := bes_wid wi hw1 hw32 _ (lvs_wid wi hw1 hw32 seed (2 ^ H)) _ 0 (2 ^ H) K 1 (Nat.le_refl _)
  have hl := besH_len wi (lvs wi seed (2 ^ H)) H K hK
  have hc := cuts_flat wi _ hwd
  rw [hl] at hc
  rw [chk5, sig, List.take_left' h0, List.drop_left' h0, hc]
theorem lt5_sw (wi K : Nat) (hw1 : 1 ≤ wi) (hw32 : wi ≤ 32) (seed h h' : List Nat) (n J V : Nat) (hJ : J < n) (hV : V < 2) : lt5 wi h' (sgn wi K seed h n) J V = lk wi K seed J (if bitv h' J = bitv h J then V else 1 - V) := by
  obtain ⟨r, hr⟩ := sgn_at wi K seed h J n hJ
  have h0 := sgn_len wi K hw1 hw32 seed h J
  have h1 : (sm (wi : Int) (scm K J (bitv h J) seed)).length = wi := by rw [sm_len ⟨by omega, by omega⟩, Int.toNat_natCast]
  have h2 := lk_len wi K hw1 hw32 seed J (1 - bitv h J)
  have hb := bitv_lt h J
  have hb' := bitv_lt h' J
  rw [hr]
  unfold lt5
  split
  · rename_i e
    rw [List.drop_left' h0, List.take_left' h1]
    show lk wi K seed J (bitv h J) = _
    congr 1
    split <;> omega
  · rename_i e
    rw [← List.drop_drop, List.drop_left' h0, List.drop_left' h1, List.take_left' h2]
    congr 1
    split <;> omega
theorem ent_at (f : Nat → Nat → List Nat) (wi : Nat) (hf : ∀ J V, (f J V).length = wi) (n J V : Nat) (hJ : J < n) (hV : V < 2) : ((ent f n).drop ((2 * J + V) * wi)).take wi = f J V := by
  have hl : ∀ n, (ent f n).length = 2 * n * wi := fun n => ent_len f wi n (fun J V _ _ => hf J V)
  have hx : ∃ r, ent f n = ent f J ++ (f J 0 ++ (f J 1 ++ r)) := by
    induction n with
    | zero => omega
    | succ n ih =>
      by_cases e : J = n
      · subst e; exact ⟨[], by simp [ent]⟩
      · obtain ⟨r, hr⟩ := ih (by omega)
        exact ⟨r ++ f n 0 ++ f n 1, by rw [ent, hr]; simp⟩
  obtain ⟨r, hr⟩ := hx
  rw [hr, Nat.add_mul, ← List.drop_drop, List.drop_left' (hl J)]
  rcases (by omega : V = 0 ∨ V = 1) with rfl | rfl
  · rw [Nat.zero_mul, List.drop_zero, List.take_left' (hf J 0)]
  · rw [Nat.one_mul, List.drop_left' (hf J 0), List.take_left' (hf J 1)]
theorem sm4_abc : sm ((4 : Nat) : Int) [97, 98, 99] = [186, 120, 22, 191] := by decide +kernel
theorem sm4_abd : sm ((4 : Nat) : Int) [97, 98, 100] = [165, 45, 21, 159] := by decide +kernel
set_option maxRecDepth 100000 in
theorem ent_abd : ent (lt5 4 (sm ((4 : Nat) : Int) [97, 98, 100]) (sgn 4 3 [1, 2, 3] (sm ((4 : Nat) : Int) [97, 98, 99]) 32)) 32 = [131, 189, 119, 93, 85, 7, 183, 173, 179, 94, 76, 53, 20, 151, 94, 11, 212, 36, 216, 55, 88, 185, 100, 103, 199, 243, 88, 147, 228, 248, 97, 152, 106, 90, 120, 105, 201, 208, 202, 91, 227, 176, 133, 35, 92, 128, 56, 228, 213, 223, 64, 124, 152, 162, 43, 187, 138, 254, 157, 171, 52, 103, 130, 209, 247, 62, 243, 168, 39, 12, 246, 99, 245, 78, 197, 64, 225, 81, 99, 177, 120, 108, 245, 158, 48, 100, 82, 8, 53, 147, 27, 13, 176, 71, 200, 51, 35, 244, 249, 120, 166, 46, 151, 233, 222, 116, 254, 204, 44, 9, 2, 249, 170, 88, 213, 178, 201, 142, 188, 60, 31, 22, 175, 62, 125, 27, 152, 149, 41, 37, 81, 201, 251, 163, 124, 11, 58, 192, 222, 171, 40, 88, 107, 128, 20, 161, 118, 161, 61, 62, 77, 61, 54, 166, 180, 79, 22, 87, 57, 245, 190, 140, 179, 155, 211, 51, 14, 9, 214, 160, 228, 205, 85, 230, 244, 147, 251, 123, 193, 166, 81, 49, 195, 48, 182, 31, 58, 64, 224, 236, 113, 235, 168, 40, 139, 175, 217, 99, 220, 150, 225, 162, 119, 137, 239, 72, 45, 109, 137, 83, 175, 41, 197, 51, 235, 160, 139, 163, 228, 187, 205, 24, 164, 153, 39, 238, 105, 51, 112, 119, 159, 226, 207, 31, 58, 112, 147, 234, 203, 59, 147, 16, 141, 39, 233, 167, 251, 36, 17, 10, 81, 64, 81, 181, 154, 168] := by
  have e1 : ent (lk 4 3 [1, 2, 3]) 32 = [131, 189, 119, 93, 85, 7, 183, 173, 179, 94, 76, 53, 20, 151, 94, 11, 212, 36, 216, 55, 88, 185, 100, 103, 228, 248, 97, 152, 199, 243, 88, 147, 201, 208, 202, 91, 106, 90, 120, 105, 92, 128, 56, 228, 227, 176, 133, 35, 152, 162, 43, 187, 213, 223, 64, 124, 52, 103, 130, 209, 138, 254, 157, 171, 247, 62, 243, 168, 39, 12, 246, 99, 225, 81, 99, 177, 245, 78, 197, 64, 120, 108, 245, 158, 48, 100, 82, 8, 176, 71, 200, 51, 53, 147, 27, 13, 35, 244, 249, 120, 166, 46, 151, 233, 44, 9, 2, 249, 222, 116, 254, 204, 170, 88, 213, 178, 201, 142, 188, 60, 125, 27, 152, 149, 31, 22, 175, 62, 41, 37, 81, 201, 251, 163, 124, 11, 58, 192, 222, 171, 40, 88, 107, 128, 20, 161, 118, 161, 61, 62, 77, 61, 54, 166, 180, 79, 22, 87, 57, 245, 190, 140, 179, 155, 211, 51, 14, 9, 214, 160, 228, 205, 85, 230, 244, 147, 81, 49, 195, 48, 251, 123, 193, 166, 224, 236, 113, 235, 182, 31, 58, 64, 168, 40, 139, 175, 217, 99, 220, 150, 225, 162, 119, 137, 239, 72, 45, 109, 197, 51, 235, 160, 137, 83, 175, 41, 139, 163, 228, 187, 205, 24, 164, 153, 39, 238, 105, 51, 112, 119, 159, 226, 207, 31, 58, 112, 147, 234, 203, 59, 147, 16, 141, 39, 233, 167, 251, 36, 17, 10, 81, 64, 81, 181, 154, 168] := eN4_3
  rw [ent_congr _ (fun J V => ((ent (lk 4 3 [1, 2, 3]) 32).drop ((2 * J + (if bitv (sm ((4 : Nat) : Int) [97, 98, 100]) J = bitv (sm ((4 : Nat) : Int) [97, 98, 99]) J then V else 1 - V)) * 4)).take 4) 32 (fun J V h1 h2 => by
    rw [lt5_sw 4 3 (by decide) (by decide) [1, 2, 3] _ _ 32 J V h1 h2]
    exact (ent_at _ 4 (fun J V => lk_len 4 3 (by decide) (by decide) _ J V) 32 J _ h1 (by split <;> omega)).symm), e1, sm4_abc, sm4_abd]
  decide +kernel
set_option maxRecDepth 100000 in
theorem lf_abd : lf ((4 : Nat) : Int) [131, 189, 119, 93, 85, 7, 183, 173, 179, 94, 76, 53, 20, 151, 94, 11, 212, 36, 216, 55, 88, 185, 100, 103, 199, 243, 88, 147, 228, 248, 97, 152, 106, 90, 120, 105, 201, 208, 202, 91, 227, 176, 133, 35, 92, 128, 56, 228, 213, 223, 64, 124, 152, 162, 43, 187, 138, 254, 157, 171, 52, 103, 130, 209, 247, 62, 243, 168, 39, 12, 246, 99, 245, 78, 197, 64, 225, 81, 99, 177, 120, 108, 245, 158, 48, 100, 82, 8, 53, 147, 27, 13, 176, 71, 200, 51, 35, 244, 249, 120, 166, 46, 151, 233, 222, 116, 254, 204, 44, 9, 2, 249, 170, 88, 213, 178, 201, 142, 188, 60, 31, 22, 175, 62, 125, 27, 152, 149, 41, 37, 81, 201, 251, 163, 124, 11, 58, 192, 222, 171, 40, 88, 107, 128, 20, 161, 118, 161, 61, 62, 77, 61, 54, 166, 180, 79, 22, 87, 57, 245, 190, 140, 179, 155, 211, 51, 14, 9, 214, 160, 228, 205, 85, 230, 244, 147, 251, 123, 193, 166, 81, 49, 195, 48, 182, 31, 58, 64, 224, 236, 113, 235, 168, 40, 139, 175, 217, 99, 220, 150, 225, 162, 119, 137, 239, 72, 45, 109, 137, 83, 175, 41, 197, 51, 235, 160, 139, 163, 228, 187, 205, 24, 164, 153, 39, 238, 105, 51, 112, 119, 159, 226, 207, 31, 58, 112, 147, 234, 203, 59, 147, 16, 141, 39, 233, 167, 251, 36, 17, 10, 81, 64, 81, 181, 154, 168] = [187, 233, 189, 218] := by decide +kernel
theorem no_key : chkL 4 2 (mth ((4 : Nat) : Int) (lvs 4 [1, 2, 3] 4)) 2 [97, 98, 99] (sig 4 2 3 [1, 2, 3] (sm ((4 : Nat) : Int) [97, 98, 99])) = false := by
  have hx := chk5_at 4 2 3 (by decide) (by decide) (by decide) [1, 2, 3] (sm ((4 : Nat) : Int) [97, 98, 99]) [97, 98, 99] (mth ((4 : Nat) : Int) (lvs 4 [1, 2, 3] 4)) 2
  rw [ent_congr _ _ _ (fun J V h1 h2 => lt5_sgn 4 3 (by decide) (by decide) [1, 2, 3] _ (8 * 4) J V h1 h2)] at hx
  have hy : chk5 4 2 (mth ((4 : Nat) : Int) (lvs 4 [1, 2, 3] 4)) 2 [97, 98, 99] (sig 4 2 3 [1, 2, 3] (sm ((4 : Nat) : Int) [97, 98, 99])) = false := by
    rw [hx]
    refine chkP_no _ _ _ _ _ _ ?_
    show ¬ topv 4 (lf ((4 : Nat) : Int) (eN 4 [1, 2, 3] 3)) 0 4 2 1 (bes 4 (lvs 4 [1, 2, 3] 4) 0 4 3 1) = _
    rw [bes4, topv4_2, pub4, lf4_3]
    decide +kernel
  unfold chkL
  split
  · exact hy
  · rfl
theorem no_text : chkL 4 2 (mth ((4 : Nat) : Int) (lvs 4 [1, 2, 3] 4)) 3 [97, 98, 100] (sig 4 2 3 [1, 2, 3] (sm ((4 : Nat) : Int) [97, 98, 99])) = false := by
  have hx := chk5_at 4 2 3 (by decide) (by decide) (by decide) [1, 2, 3] (sm ((4 : Nat) : Int) [97, 98, 99]) [97, 98, 100] (mth ((4 : Nat) : Int) (lvs 4 [1, 2, 3] 4)) 3
  have hy : chk5 4 2 (mth ((4 : Nat) : Int) (lvs 4 [1, 2, 3] 4)) 3 [97, 98, 100] (sig 4 2 3 [1, 2, 3] (sm ((4 : Nat) : Int) [97, 98, 99])) = false := by
    rw [hx]
    refine chkP_no _ _ _ _ _ _ ?_
    show ¬ topv 4 (lf ((4 : Nat) : Int) (ent (lt5 4 (sm ((4 : Nat) : Int) [97, 98, 100]) (sgn 4 3 [1, 2, 3] (sm ((4 : Nat) : Int) [97, 98, 99]) 32)) 32)) 0 4 3 1 (bes 4 (lvs 4 [1, 2, 3] 4) 0 4 3 1) = _
    rw [bes4, topv4_3, pub4, ent_abd, lf_abd]
    decide +kernel
  unfold chkL
  split
  · exact hy
  · rfl
end Go.Proofs.YtjokmlnghpnlbaaDoor

namespace Go.Proofs.YtjokmlnghpnlbaaDoor
open Go.RowKit

set_option maxRecDepth 100000 in
/-- The document's May. -/
theorem g5may_any (j h : Int) (w : World) : Calls Tryd.prog 20 #[.int .i64 j, .int .i64 h] w fun e w' => e = .returned (.bool (decide ((1 ≤ j ∧ j ≤ 32) ∧ 0 ≤ h ∧ h ≤ 6))) ∧ w' = w := by
  by_cases hj : 1 ≤ j ∧ j ≤ 32
  · have HW := hide (may_yes j w hj.1 hj.2)
    by_cases h1 : 0 ≤ h
    · by_cases h2 : h ≤ 6
      · rw [decide_eq_true ⟨hj, h1, h2⟩]
        clear hj
        go_enter Tryd.func20, Tryd.ntmps20
        go_wp2_with fail
        refine (unhide HW).mono ?_
        rintro e w0 ⟨rfl, rfl⟩
        go_wp2_with fail
        go_ret
        exact ⟨rfl, rfl⟩
      · rw [decide_eq_false (fun k => h2 k.2.2)]
        clear hj
        go_enter Tryd.func20, Tryd.ntmps20
        go_wp2_with fail
        refine (unhide HW).mono ?_
        rintro e w0 ⟨rfl, rfl⟩
        go_wp2_with fail
        go_ret
        refine ⟨?_, rfl⟩
        show Ending.returned (.bool (decide (h ≤ 6))) = _
        rw [decide_eq_false (by omega)]
    · rw [decide_eq_false (fun k => h1 k.2.1)]
      clear hj
      go_enter Tryd.func20, Tryd.ntmps20
      go_wp2_with fail
      refine (unhide HW).mono ?_
      rintro e w0 ⟨rfl, rfl⟩
      go_wp2_with fail
      go_ret
      exact ⟨rfl, rfl⟩
  · rw [decide_eq_false (fun k => hj k.1)]
    have HW := hide (may_no j w (by omega))
    clear hj
    go_enter Tryd.func20, Tryd.ntmps20
    go_wp2_with fail
    refine (unhide HW).mono ?_
    rintro e w0 ⟨rfl, rfl⟩
    go_wp2_with fail
    go_ret
    exact ⟨rfl, rfl⟩
set_option maxRecDepth 100000 in
/-- The document's Size. -/
theorem g5size_any (j h : Int) (w : World) : Calls Tryd.prog 18 #[.int .i64 j, .int .i64 h] w fun e w' => e = .returned (.int .i64 (szF j h)) ∧ w' = w := by
  have hm := g5may_any j h w
  by_cases hc : (1 ≤ j ∧ j ≤ 32) ∧ 0 ≤ h ∧ h ≤ 6
  · rw [decide_eq_true hc] at hm
    have hsz : szF j h = 16 * j * j + h * j := by rw [szF, if_pos hc]
    rw [hsz]
    obtain ⟨wi, rfl⟩ : ∃ k : Nat, j = (k : Int) := ⟨j.toNat, by omega⟩
    obtain ⟨H, rfl⟩ : ∃ k : Nat, h = (k : Int) := ⟨h.toNat, by omega⟩
    have hw32 : wi ≤ 32 := by omega
    have hH6 : H ≤ 6 := by omega
    have hsq : wi * wi ≤ 32 * 32 := Nat.mul_le_mul hw32 hw32
    have hhw : H * wi ≤ 6 * 32 := Nat.mul_le_mul hH6 hw32
    have b2 : 16 * wi * wi ≤ 16384 := by rw [Nat.mul_assoc]; omega
    have e3 : (16 : Int) * (wi : Int) * (wi : Int) = ((16 * wi * wi : Nat) : Int) := by push_cast; rfl
    have e4 : (H : Int) * (wi : Int) = ((H * wi : Nat) : Int) := by push_cast; rfl
    have e5 : (16 : Int) * (wi : Int) = ((16 * wi : Nat) : Int) := by omega
    rw [e3, e4]
    have q0 : IntKind.i64.wrap (16 * (wi : Int)) = ((16 * wi : Nat) : Int) := by rw [IntKind.wrap_i64]; omega
    have q3 : IntKind.i64.wrap (((16 * wi : Nat) : Int) * (wi : Int)) = ((16 * wi * wi : Nat) : Int) := by rw [← e5, e3, IntKind.wrap_i64]; omega
    have q1 : IntKind.i64.wrap ((H : Int) * (wi : Int)) = ((H * wi : Nat) : Int) := by rw [e4, IntKind.wrap_i64]; omega
    have q2 : IntKind.i64.wrap (((16 * wi * wi : Nat) : Int) + ((H * wi : Nat) : Int)) = ((16 * wi * wi : Nat) : Int) + ((H * wi : Nat) : Int) := by rw [IntKind.wrap_i64]; omega
    have HM := hide hm
    clear hm hc hsz hsq hhw b2 e3 e4 e5
    generalize 16 * wi * wi = S at *
    generalize 16 * wi = D at *
    generalize H * wi = T at *
    go_enter Tryd.func18, Tryd.ntmps18
    go_wp2_with fail
    refine (unhide HM).mono ?_
    rintro e w0 ⟨rfl, rfl⟩
    go_wp2_with fail
    go_ret
    exact ⟨rfl, rfl⟩
  · rw [decide_eq_false hc] at hm
    have hsz : szF j h = 0 := by rw [szF, if_neg hc]
    rw [hsz]
    have HM := hide hm
    clear hm hc hsz
    go_enter Tryd.func18, Tryd.ntmps18
    go_wp2_with fail
    refine (unhide HM).mono ?_
    rintro e w0 ⟨rfl, rfl⟩
    go_wp2_with fail
    go_ret
    exact ⟨rfl, rfl⟩
end Go.Proofs.YtjokmlnghpnlbaaDoor

namespace Go.Proofs.YtjokmlnghpnlbaaDoor
open Go.RowKit

theorem cells8 (K J V : Nat) (hK : K < 64) (hJ : J < 256) (hV : V < 2) : (#[Value.int .u8 2, .int .u8 0, .int .u8 0, .int .u8 0, .int .u8 (K : Int), .int .u8 ((J : Int) / 256), .int .u8 ((J : Int) % 256), .int .u8 (V : Int)] : Array Value).toList = cellsOf (scm K J V []) := by
  have h1 : (J : Int) / 256 = 0 := by omega
  have h2 : (J : Int) % 256 = (J : Int) := by omega
  have h3 : J / 256 = 0 := by omega
  rw [h1, h2]
  simp [cellsOf, B, scm, h3, Nat.mod_eq_of_lt hJ, Nat.mod_eq_of_lt (show K < 256 by omega), Nat.mod_eq_of_lt (show V < 256 by omega)]
theorem ob_lit8 (w : World) (cs : Array Value) (l : List Nat) (hc : cs.size = 8) (h : cs.toList = cellsOf l) (hl : l.length = 8) : OB w (w.alloc (.cells cs 5)) (some ⟨w.heap.size, 0, none⟩) 8 l := by
  refine ⟨?_, (Fr.refl _ _).alloc _⟩
  have := World.ownsRow_lit (e := 5) (size := 1) (base := w.heap.size) w cs 8 (Nat.le_refl _) (by simp only [maxLen]; omega) (by omega)
  rw [hl, ← h]
  exact this
theorem scm_nil (K J V : Nat) (seed : List Nat) : scm K J V seed = scm K J V [] ++ seed := by simp [scm]
set_option maxRecDepth 100000 in
set_option maxHeartbeats 2000000 in
/-- The document's Secret, of what may be. -/
theorem g5secret_in (wi K J V : Nat) (hw1 : 1 ≤ wi) (hw32 : wi ≤ 32) (hK : K < 64) (hJ : J < 8 * wi) (hV : V < 2) (x : Value) (seed : List Nat) (w : World) (hg : GR w) (hx : Sl w x seed) (hs : seed.length ≤ 15000000) :
    Calls Tryd.prog 17 #[.int .i64 wi, x, .int .i64 K, .int .i64 J, .int .i64 V] w fun e w' => ∃ yo yc, e = .returned (.slice yo wi yc) ∧ OB w w' yo yc (sm wi (scm K J V seed)) := by
  have hmy := hide (may_yes wi w (by omega) (by omega))
  obtain ⟨xo, xc, rfl⟩ := hx.form
  have HC := hide (And.intro hg (And.intro hx hs))
  have hJ9 : J < 256 := by omega
  have q2 : ¬ (8 * (wi : Int)) ≤ (J : Int) := by omega
  have q4 : ¬ (63 : Int) < (K : Int) := by omega
  have q5 : ¬ (1 : Int) < (V : Int) := by omega
  have h8 := cells8 K J V hK hJ9 hV
  have hl8 : (scm K J V []).length = 8 := by simp [scm]
  have hbs : ∀ v ∈ scm K J V [], v < 256 := by simp [scm]; omega
  rw [scm_nil K J V seed]
  generalize scm K J V [] = M0 at *
  have H8 := hide h8
  have HM := hide (And.intro hl8 hbs)
  clear h8 hl8 hbs
  clear hx hg hs
  generalize hSN : seed.length = SN at *
  go_enter Tryd.func17, Tryd.ntmps17
  go_wp2_with fail
  refine (unhide hmy).mono ?_
  rintro e w0 ⟨rfl, rfl⟩
  go_wp2_with fail
  have hO0 := ob_lit8 w0 _ _ rfl (unhide H8) (unhide HM).1
  have HO := hide (And.intro hO0 (unhide HM))
  clear hO0 HM
  go_loopw [11, 12] (fun v iv wr => ∃ (k : Nat) (ao : Option Addr) (cp n : Nat), k ≤ SN ∧ iv = .int .i64 (k : Nat) ∧ v = .slice ao n cp ∧ n = (M0 ++ seed.take k).length ∧ OB w0 wr ao cp (M0 ++ seed.take k)) (fun _ iv _ => SN - (intOf iv).toNat)
  case atStart => exact ⟨0, _, _, 8, Nat.zero_le _, rfl, rfl, by rw [List.take_zero, List.append_nil]; exact (unhide HO).2.1.symm, by rw [List.take_zero, List.append_nil]; exact (unhide HO).1⟩
  case round =>
    obtain ⟨k, ao, cp, n, hk, rfl, rfl, hn, hO⟩ := hrel
    have hs9 := (unhide HC).2.2
    by_cases hlt : k < SN
    · have hlt' : (k : Int) < (SN : Int) := by omega
      obtain ⟨g, o, rfl, hc⟩ := src_cell ((unhide HC).2.1.fr0 hO.fr).s k (by omega) (unhide HC).2.1.b
      have hv : seed.getD k 0 < 256 := by
        rw [List.getD_eq_getElem?_getD, List.getElem?_eq_getElem (by omega)]; exact (unhide HC).2.1.b _ (List.getElem_mem _)
      have hll : (M0 ++ seed.take k).length = 8 + k := by rw [List.length_append, (unhide HO).2.1, List.length_take]; omega
      obtain ⟨a4, c4, w4, hr4, hO4⟩ := hO.app1 (seed.getD k 0) hv (by omega)
      have htk : M0 ++ seed.take k ++ [seed.getD k 0] = M0 ++ seed.take (k + 1) := by
        rw [List.append_assoc, List.take_add_one, List.getElem?_eq_getElem (by omega), Option.toList_some, List.getD_eq_getElem?_getD, List.getElem?_eq_getElem (by omega)]; rfl
      rw [htk] at hr4 hO4
      rw [← hn] at hr4
      have HR4 := hide (And.intro hr4 hO4)
      generalize seed.getD k 0 = v at *
      clear hr4 hO4 hO hn htk hll
      go_wp2_with (at_builtin; refine wpList_app rfl _ _ 24 24 rfl _ _ _ rfl rfl (unhide HR4).1 ?_)
      exact ⟨⟨k + 1, _, _, _, by omega, by go_num, rfl, by rw [List.length_append, List.length_take, hSN], (unhide HR4).2⟩, by simp [intOf]; omega⟩
    · have hlt' : ¬ (k : Int) < (SN : Int) := by omega
      have htk : seed.take k = seed := List.take_of_length_le (by omega)
      rw [htk] at hO hn
      have hll : (M0 ++ seed).length = 8 + SN := by rw [List.length_append, (unhide HO).2.1]; omega
      have hbb : ∀ v ∈ M0 ++ seed, v < 256 := fun v hv => (List.mem_append.1 hv).elim ((unhide HO).2.2 v) ((unhide HC).2.1.b v)
      have hsrc := hO.src
      rw [← hn] at hsrc
      have hsm := gsum_in wi _ (M0 ++ seed) wr ((unhide HC).1.fr0 hO.fr) hsrc hbb (by omega) hw1 hw32
      have HS := hide (And.intro hsm hO.fr)
      clear hsm hO hsrc hbb hll hn htk
      go_wp2_with fail
      refine (unhide HS).1.mono ?_
      rintro e w5 ⟨yo, yc, rfl, hO5⟩
      have H5 := hide (hO5.base (unhide HS).2)
      clear hO5
      go_wp2_with fail
      go_ret
      refine ⟨_, _, rfl, ?_⟩
      rw [sm, if_pos ⟨by omega, by omega⟩, Int.toNat_natCast]
      exact unhide H5
end Go.Proofs.YtjokmlnghpnlbaaDoor

namespace Go.Proofs.YtjokmlnghpnlbaaDoor
open Go.RowKit

/-- The cells of steps. -/
def scells (L : List (Value × Value × Bool)) : List Value := (L.map fun p => [p.1, p.2.1, .bool p.2.2]).flatten
theorem scells_len (L : List (Value × Value × Bool)) : (scells L).length = L.length * 3 := by
  induction L with
  | nil => rfl
  | cons a r ih => simp only [scells, List.map_cons, List.flatten_cons, List.length_append, List.length_cons, List.length_nil] at ih ⊢; omega
theorem scells_cons (a : Value × Value × Bool) (r : List (Value × Value × Bool)) : scells (a :: r) = [a.1, a.2.1, .bool a.2.2] ++ scells r := rfl
theorem scells_app (a b : List (Value × Value × Bool)) : scells (a ++ b) = scells a ++ scells b := by simp [scells]
theorem scells_at (L : List (Value × Value × Bool)) : ∀ (k : Nat) (hk : k < L.length), (scells L)[k * 3]? = some L[k].1 ∧ (scells L)[k * 3 + 1]? = some L[k].2.1 ∧ (scells L)[k * 3 + 2]? = some (.bool L[k].2.2) := by
  induction L with
  | nil => intro k hk; simp at hk
  | cons a r ih =>
    intro k hk
    match k, hk with
    | 0, _ => exact ⟨rfl, rfl, rfl⟩
    | k + 1, hk =>
      obtain ⟨h1, h2, h3⟩ := ih k (by simpa using hk)
      have e : ∀ j, (scells (a :: r))[(k + 1) * 3 + j]? = (scells r)[k * 3 + j]? := fun j => by
        rw [scells_cons, List.getElem?_append_right (by simp; omega)]
        congr 1
        simp
        omega
      have e0 := e 0
      simp only [Nat.add_zero] at e0
      refine ⟨e0.trans h1, (e 1).trans h2, (e 2).trans h3⟩
theorem Tryd.infoStep : (Tryd.prog.info? 121).map (fun i => (i.zero, i.size, i.bytes)) = some (some (.agg #[.slice none 0 0, .slice none 0 0, .bool false]), 3, 56) := by kernel_rfl
/-- One more step. -/
theorem app_step (w : World) (base : Nat) (v : Value) (L : List (Value × Value × Bool)) (la : Option Addr) (ln lc : Nat) (ra : Option Addr) (rn rc : Nat) (b : Bool) (hown : w.ownsRow base 121 3 v L.length (scells L)) (hb : L.length + 1 ≤ 16777216) (hbase : base ≤ w.heap.size) :
    ∃ ao cap w', (Builtin.append_ #[105, 105] 105 #[v, .slice (some ⟨w.heap.size, 0, none⟩) 1 1]).run Tryd.prog (w.alloc (.cells #[.slice la ln lc, .slice ra rn rc, .bool b] 121)) = .ok (.slice ao (L.length + 1) cap) w' ∧
      w'.ownsRow base 121 3 (.slice ao (L.length + 1) cap) (L.length + 1) (scells (L ++ [(.slice la ln lc, .slice ra rn rc, b)])) ∧ (w.alloc (.cells #[.slice la ln lc, .slice ra rn rc, .bool b] 121)).grownBy w' v.ownBlock := by
  obtain ⟨i0, hi, hz0, hz1, hz2⟩ := info_parts Tryd.infoStep
  have h1 : (w.alloc (.cells #[.slice la ln lc, .slice ra rn rc, .bool b] 121)).ownsRow base 121 3 v L.length (scells L) := ownsRow_of_block hown (fun g hg => Below.heap_alloc _ _ _ (hown.lt g hg).2)
  obtain ⟨v', w', hr, h2, h3, _, _⟩ := run_append_own_at (P := Tryd.prog) (w.alloc (.cells #[.slice la ln lc, .slice ra rn rc, .bool b] 121)) base 105 105 121 i0 (.agg #[.slice none 0 0, .slice none 0 0, .bool false]) 3 56 Tryd.underlying105 hi hz0 hz1 hz2 rfl (by decide) v L.length _ h1 ⟨w.heap.size, 0, none⟩ 1 1 [.slice la ln lc, .slice ra rn rc, .bool b] rfl (fun j u hu => by
      match j, hu with
      | 0, hu => simp at hu; subst hu; simp [Addr.add]
      | 1, hu => simp at hu; subst hu; simp [Addr.add]
      | 2, hu => simp at hu; subst hu; simp [Addr.add]) (fun u hu => by simp at hu; rcases hu with rfl | rfl | rfl <;> rfl) (by simp only [maxLen]; omega) (by omega) (by simp; omega)
  have hf : ∃ ao cap, v' = .slice ao (L.length + 1) cap := by
    rcases h2.2 with ⟨_, e⟩ | ⟨g, cap, cur, rfl, _⟩
    · omega
    · exact ⟨_, _, rfl⟩
  obtain ⟨ao, cap, rfl⟩ := hf
  refine ⟨ao, cap, w', hr, ?_, h3⟩
  rw [scells_app]
  exact h2
/-- Steps in memory of one's own. -/
structure OT (w wr : World) (v : Value) (ss : List (Value × Value × Bool)) : Prop where
  own : wr.ownsRow w.heap.size 121 3 v ss.length (scells ss)
  fr : Fr (fun _ => False) w wr
theorem OT.nil (w : World) : OT w w (.slice none 0 0) [] := ⟨⟨rfl, .inl ⟨rfl, rfl⟩⟩, Fr.refl _ _⟩
theorem OT.fr0 {w wr wq : World} {v : Value} {ss : List (Value × Value × Bool)} (h : OT w wr v ss) (hf : Fr (fun _ => False) wr wq) : OT w wq v ss :=
  ⟨ownsRow_of_block h.own (fun g hg => hf.block g (h.own.lt g hg).2 (fun h => h)), h.fr.trans hf (fun _ _ h => h)⟩
theorem OT.base {w wA wr : World} {v : Value} {ss : List (Value × Value × Bool)} (h : OT wA wr v ss) (hf : Fr (fun _ => False) w wA) : OT w wr v ss := by
  refine ⟨⟨h.own.1, ?_⟩, hf.trans h.fr (fun _ _ h => h)⟩
  rcases h.own.2 with h0 | ⟨g, cap, cur, e1, e2, e3⟩
  · exact .inl h0
  · exact .inr ⟨g, cap, cur, e1, Nat.le_trans hf.size e2, e3⟩
theorem OT.form {w wr : World} {v : Value} {ss : List (Value × Value × Bool)} (h : OT w wr v ss) : ∃ ao cap, v = .slice ao ss.length cap := by
  rcases h.own.2 with ⟨e, e0⟩ | ⟨g, cap, cur, e, _⟩
  · exact ⟨none, 0, by rw [e, e0]⟩
  · exact ⟨_, _, e⟩
/-- The cells of one step, in a later world. -/
theorem OT.cell {w wr wq : World} {so : Option Addr} {n sc : Nat} {ss : List (Value × Value × Bool)} (h : OT w wr (.slice so n sc) ss) (hf : Fr (fun _ => False) wr wq) (k : Nat) (hk : k < ss.length) : ∃ g, so = some ⟨g, 0, none⟩ ∧ wq.cell? ⟨g, k * 3, none⟩ = some ss[k].1 ∧ wq.cell? ⟨g, k * 3 + 1, none⟩ = some ss[k].2.1 ∧ wq.cell? ⟨g, k * 3 + 2, none⟩ = some (.bool ss[k].2.2) := by
  rcases h.own.2 with ⟨_, e0⟩ | ⟨g, cap, cur, e, _⟩
  · omega
  · simp only [Value.slice.injEq] at e
    obtain ⟨rfl, rfl, rfl⟩ := e
    have hl := (h.own.lt g rfl).2
    obtain ⟨s1, s2, s3⟩ := scells_at ss k hk
    exact ⟨g, rfl, (hf.cell (p := ⟨g, k * 3, none⟩) hl (fun h => h)).trans ((h.own.cellAt (k * 3) (by omega)).trans s1), (hf.cell (p := ⟨g, k * 3 + 1, none⟩) hl (fun h => h)).trans ((h.own.cellAt (k * 3 + 1) (by omega)).trans s2), (hf.cell (p := ⟨g, k * 3 + 2, none⟩) hl (fun h => h)).trans ((h.own.cellAt (k * 3 + 2) (by omega)).trans s3)⟩
theorem OT.lit {w w1 : World} (hF0 : Fr (fun _ => False) w w1) (la : Option Addr) (ln lc : Nat) (ra : Option Addr) (rn rc : Nat) (b : Bool) (W : World) (hW : w1.alloc (.cells #[.slice la ln lc, .slice ra rn rc, .bool b] 121) = W) : OT w W (.slice (some ⟨w1.heap.size, 0, none⟩) 1 1) [(.slice la ln lc, .slice ra rn rc, b)] := by
  have hF : Fr (fun _ => False) w1 W := by rw [← hW]; exact (Fr.refl _ _).alloc _
  refine ⟨?_, hF0.trans hF (fun _ _ h => h)⟩
  have := World.ownsRow_lit (e := 121) (size := 3) w1 #[.slice la ln lc, .slice ra rn rc, .bool b] 1 (Nat.le_refl _) (by simp only [maxLen]; omega) rfl
  rw [hW] at this
  refine ⟨this.1, ?_⟩
  rcases this.2 with h0 | ⟨g, cap, cur, e1, e2, e3⟩
  · exact .inl h0
  · exact .inr ⟨g, cap, cur, e1, Nat.le_trans hF0.size e2, e3⟩
end Go.Proofs.YtjokmlnghpnlbaaDoor

namespace Go.Proofs.YtjokmlnghpnlbaaDoor
open Go.RowKit

set_option maxRecDepth 100000 in
set_option maxHeartbeats 1000000 in
/-- The document's wide. -/
theorem gwide_any (j : Int) (x : Value) (vs : List Value) (ps : List (List Nat)) (w : World) (hp : Pcs w x vs ps) (hn : ps.length < 4611686018427387904) :
    Calls Tryd.prog 81 #[.int .i64 j, x] w fun e w' => e = .returned (.bool (wdq j ps)) ∧ w' = w := by
  obtain ⟨xo, xc, rfl⟩ := hp.form
  have HG := hide (And.intro hp hn)
  clear hp hn
  generalize hN : ps.length = N at *
  go_enter Tryd.func81, Tryd.ntmps81
  go_wp2_with fail
  go_loopw [5] (fun iv wr => ∃ (k : Nat), k ≤ N ∧ iv = .int .i64 (k : Nat) ∧ wr = w ∧ wdq j (ps.take k) = true) (fun iv _ => N - (intOf iv).toNat)
  case atStart => exact ⟨0, Nat.zero_le _, rfl, rfl, by simp [wdq]⟩
  case round =>
    obtain ⟨k, hk, rfl, rfl, hw⟩ := hrel
    have hN8 := (unhide HG).2
    by_cases hlt : k < N
    · have hlt' : (k : Int) < (N : Int) := by omega
      have hke : k < ps.length := by omega
      obtain ⟨g, o, vo, vc, rfl, hcell, -⟩ := (unhide HG).1.nth (Fr.refl _ _) k hke
      by_cases he : (ps[k].length : Int) = j
      · have hw2 : wdq j (ps.take (k + 1)) = true := by rw [wdq_take j ps k hke, hw, decide_eq_true he]; rfl
        have HW := hide hw2
        clear hw2 hw
        have w1 : IntKind.i64.wrap ((k : Int) + 1) = (k : Int) + 1 := by rw [IntKind.wrap_i64]; omega
        have hee : ((ps[k].length : Int) == j) = true := by rw [he]; simp
        subst he
        generalize ps[k].length = EL at *
        go_wp2_with fail
        exact ⟨⟨k + 1, by omega, by go_num, by first | rfl | trivial, unhide HW⟩, by simp [intOf]; omega⟩
      · have hf := wdq_false j ps k hke he
        have HW := hide hf
        clear hf hw
        have hee : ((ps[k].length : Int) == j) = false := beq_false_of_ne he
        generalize ps[k].length = EL at *
        go_wp2_with fail
        go_ret
        exact ⟨by rw [unhide HW]; rfl, rfl⟩
    · have hkN : k = N := by omega
      have hlt' : ¬ (k : Int) < (N : Int) := by omega
      have htk : ps.take k = ps := List.take_of_length_le (by omega)
      rw [htk] at hw
      have HW := hide hw
      clear hw htk hkN
      go_wp2_with fail
      go_ret
      exact ⟨by rw [unhide HW]; rfl, rfl⟩
/-- The steps from the top down to an entry. -/
def stpv (wi : Nat) (leaf : List Nat) (f n i : Nat) (ps : List (List Nat)) : List (List Nat × List Nat × Bool) :=
  if _h : n < 2 then []
  else if i < f + hf n then (topv wi leaf f (hf n) i 1 ps.dropLast, ps.getLastD [], true) :: stpv wi leaf f (hf n) i ps.dropLast
  else (ps.getLastD [], topv wi leaf (f + hf n) (n - hf n) i 1 ps.dropLast, false) :: stpv wi leaf (f + hf n) (n - hf n) i ps.dropLast
termination_by n
decreasing_by
  · exact hf_lt n (by omega)
  · have := hf_pos n; omega
def StOk (w : World) (ss : List (Value × Value × Bool)) (ts : List (List Nat × List Nat × Bool)) : Prop :=
  ss.length = ts.length ∧ ∀ (j : Nat) s t, ss[j]? = some s → ts[j]? = some t → Sl w s.1 t.1 ∧ Sl w s.2.1 t.2.1 ∧ s.2.2 = t.2.2
theorem StOk.nil (w : World) : StOk w [] [] := ⟨rfl, fun j s t h => by simp at h⟩
theorem StOk.fr0 {w w' : World} {ss : List (Value × Value × Bool)} {ts : List (List Nat × List Nat × Bool)} (h : StOk w ss ts) (hf : Fr (fun _ => False) w w') : StOk w' ss ts :=
  ⟨h.1, fun j s t hs ht => ⟨(h.2 j s t hs ht).1.fr0 hf, (h.2 j s t hs ht).2.1.fr0 hf, (h.2 j s t hs ht).2.2⟩⟩
theorem StOk.cons {w : World} {s : Value × Value × Bool} {t : List Nat × List Nat × Bool} {ss : List (Value × Value × Bool)} {ts : List (List Nat × List Nat × Bool)} (h1 : Sl w s.1 t.1) (h2 : Sl w s.2.1 t.2.1) (h3 : s.2.2 = t.2.2) (h : StOk w ss ts) : StOk w (s :: ss) (t :: ts) :=
  ⟨by simp [h.1], fun j s' t' hs ht => by
    match j with
    | 0 => simp at hs ht; subst hs ht; exact ⟨h1, h2, h3⟩
    | j + 1 => simp at hs ht; exact h.2 j s' t' hs ht⟩
theorem StOk.form {w : World} {ss : List (Value × Value × Bool)} {ts : List (List Nat × List Nat × Bool)} (h : StOk w ss ts) (k : Nat) (hk : k < ss.length) : ∃ la ln lc ra rn rc, ss[k] = (.slice la ln lc, .slice ra rn rc, ss[k].2.2) := by
  obtain ⟨h1, h2, _⟩ := h.2 k ss[k] (ts[k]'(by rw [← h.1]; exact hk)) (List.getElem?_eq_getElem hk) (List.getElem?_eq_getElem _)
  obtain ⟨a, c, e1⟩ := h1.form
  obtain ⟨b, d, e2⟩ := h2.form
  exact ⟨a, _, c, b, _, d, by rw [← e1, ← e2]⟩
def ClSays (wi : Nat) (leaf : List Nat) (lv : Value) (f n i : Nat) (ps : List (List Nat)) (x : Value) (w : World) : Prop :=
  Calls Tryd.prog 82 #[.int .i64 wi, lv, .int .i64 ((i - f : Nat) : Int), .int .i64 n, x] w fun e w' =>
    (ps.length = dep f n i 1 → ∃ ho hn hc so sc ss, e = .returned (.tuple #[.slice ho hn hc, .slice so ss.length sc, .bool true]) ∧ Sl w' (.slice ho hn hc) (topv wi leaf f n i 1 ps) ∧ OT w w' (.slice so ss.length sc) ss ∧ StOk w' ss (stpv wi leaf f n i ps)) ∧
    (¬ ps.length = dep f n i 1 → ∃ ho hn hc, e = .returned (.tuple #[.slice ho hn hc, .slice none 0 0, .bool false])) ∧ Fr (fun _ => False) w w'
set_option maxRecDepth 100000 in
set_option maxHeartbeats 1000000 in
theorem climb_one (wi : Nat) (leaf : List Nat) (lv : Value) (f i : Nat) (ps : List (List Nat)) (vs : List Value) (x : Value) (w : World) (hl : Sl w lv leaf) (hp : Pcs w x vs ps) (hi : f = i) : ClSays wi leaf lv f 1 i ps x w := by
  unfold ClSays
  subst hi
  rw [dep_eq, topv_eq]
  have hst : stpv wi leaf f 1 f ps = [] := by rw [stpv, dif_pos (by decide)]
  rw [hst, Nat.sub_self]
  obtain ⟨lo, lc, rfl⟩ := hl.form
  obtain ⟨xo, xc, rfl⟩ := hp.form
  have HL := hide hl
  clear hl hp hst
  have e0 : ((0 : Nat) : Int) = 0 := rfl
  have e1 : ((1 : Nat) : Int) = 1 := rfl
  simp only [e0, e1]
  clear e0 e1
  generalize leaf.length = LN at *
  by_cases h0 : ps.length = 0
  · rw [h0]
    go_enter Tryd.func82, Tryd.ntmps82
    go_wp2_with fail
    go_returns
    exact ⟨fun _ => ⟨lo, LN, lc, none, 0, [], rfl, unhide HL, OT.nil _, StOk.nil _⟩, fun h => by first | exact absurd rfl h | exact absurd trivial h, Fr.refl _ _⟩
  · have q1 : ((ps.length : Int) == 0) = false := beq_false_of_ne (by omega)
    generalize ps.length = PN at *
    go_enter Tryd.func82, Tryd.ntmps82
    go_wp2_with fail
    go_returns
    exact ⟨fun h => absurd h h0, fun _ => ⟨lo, LN, lc, rfl⟩, Fr.refl _ _⟩
set_option maxRecDepth 100000 in
set_option maxHeartbeats 1000000 in
theorem climb_short (wi : Nat) (leaf : List Nat) (lv : Value) (f n i : Nat) (vs : List Value) (x : Value) (w : World) (hl : Sl w lv leaf) (hp : Pcs w x vs []) (h2 : 2 ≤ n) (hd : ¬ 0 = dep f n i 1) : ClSays wi leaf lv f n i [] x w := by
  unfold ClSays
  obtain ⟨lo, lc, rfl⟩ := hl.form
  obtain ⟨xo, xc, rfl⟩ := hp.form
  clear hl hp
  simp only [List.length_nil]
  have q1 : ((n : Int) == 1) = false := beq_false_of_ne (by omega)
  have q2 : ¬ n = 1 := by omega
  generalize leaf.length = LN at *
  generalize i - f = I at *
  go_enter Tryd.func82, Tryd.ntmps82
  go_wp2_with fail
  go_returns
  exact ⟨fun h => absurd h hd, fun _ => ⟨none, 0, 0, rfl⟩, Fr.refl _ _⟩
end Go.Proofs.YtjokmlnghpnlbaaDoor

namespace Go.Proofs.YtjokmlnghpnlbaaDoor
open Go.RowKit

theorem box3s (w : World) (a b c : Value) (ty : Nat) (W : World) (hW : w.alloc (.cells #[a, b, c] ty) = W) : W.cell? ⟨w.heap.size, 0, none⟩ = some a ∧ W.cell? ⟨w.heap.size, 1, none⟩ = some b ∧ W.cell? ⟨w.heap.size, 2, none⟩ = some c ∧ Fr (fun _ => False) w W := by
  subst hW
  have hc : ∀ j, (w.alloc (.cells #[a, b, c] ty)).cell? ⟨w.heap.size, j, none⟩ = (#[a, b, c] : Array Value)[j]? := fun j => World.cell?_alloc_at _ _ _ _ rfl
  exact ⟨hc 0, hc 1, hc 2, (Fr.refl _ _).alloc _⟩
theorem stpv_len (wi : Nat) (leaf : List Nat) (m : Nat) : ∀ f n i (ps : List (List Nat)), n ≤ m → (stpv wi leaf f n i ps).length = dep f n i 1 := by
  induction m with
  | zero => intro f n i ps h; rw [stpv, dif_pos (by omega), dep, dif_pos (by omega)]; rfl
  | succ m ih =>
    intro f n i ps h
    by_cases h2 : n < 2
    · rw [stpv, dif_pos h2, dep, dif_pos (by omega)]; rfl
    · have hlt := hf_lt n (by omega)
      have hpos := hf_pos n
      by_cases hi : i < f + hf n
      · rw [stpv, dif_neg h2, if_pos hi, dep_l (by omega) (by omega) hi, List.length_cons, ih _ _ _ _ (by omega)]
      · rw [stpv, dif_neg h2, if_neg hi, dep_r (by omega) (by omega) hi, List.length_cons, ih _ _ _ _ (by omega)]
set_option maxRecDepth 100000 in
set_option maxHeartbeats 4000000 in
/-- A step down to the left. -/
theorem climb_left (wi : Nat) (hw1 : 1 ≤ wi) (hw32 : wi ≤ 32) (leaf : List Nat) (lo : Option Addr) (ln lc : Nat) (f n i D : Nat) (ps : List (List Nat)) (vs : List Value) (g o xc : Nat) (w : World) (hr : GR w) (hp : Pcs w (.slice (some ⟨g, o, none⟩) (D + 1) xc) vs ps) (hcap : D + 1 ≤ xc) (hlen : ps.length = D + 1) (hD8 : D < 8000000) (h2 : 2 ≤ n) (hn : n < 9223372036854775808) (hfi : f ≤ i) (hi : i < f + hf n) (hll : leaf.length = wi) (hpw : ∀ p ∈ ps, p.length = wi)
    (ih : ∀ w', Fr (fun _ => False) w w' → ClSays wi leaf (.slice lo ln lc) f (hf n) i (ps.take D) (.slice (some ⟨g, o, none⟩) D xc) w') : ClSays wi leaf (.slice lo ln lc) f n i ps (.slice (some ⟨g, o, none⟩) (D + 1) xc) w := by
  have hlt := hf_lt n h2
  have hpos := hf_pos n
  obtain ⟨g', o', vo, vc, eg, hcell, hsl⟩ := hp.nth (Fr.refl _ _) D (by omega)
  cases eg
  have hdl : ps.dropLast = ps.take D := by rw [List.dropLast_eq_take, hlen]; rfl
  have hgl : ps.getLastD [] = ps[D] := getLastD_at ps D hlen
  have hne : ¬ (f = i ∧ n = 1) := by omega
  have hdp := dep_l h2 hne hi
  have htv := topv_l (wi := wi) (r := leaf) (p := ps) h2 hne hi
  have hst : stpv wi leaf f n i ps = (topv wi leaf f (hf n) i 1 ps.dropLast, ps.getLastD [], true) :: stpv wi leaf f (hf n) i ps.dropLast := by
    conv => lhs; rw [stpv, dif_neg (by omega), if_pos hi]
  rw [hdl, hgl] at htv hst
  have hTw := topv_wid wi hw1 hw32 leaf hll _ f (hf n) i 1 (ps.take D) (Nat.le_refl _)
  have hAw := hpw ps[D] (List.getElem_mem _)
  have htl : (ps.take D).length = D := by rw [List.length_take]; omega
  have hha := half_any n w hn h2
  have hI : i - f < hf n := by omega
  have hSL := stpv_len wi leaf _ f (hf n) i (ps.take D) (Nat.le_refl _)
  unfold ClSays at ih ⊢
  rw [hdp, htv, hst]
  rw [htl] at ih
  rw [hAw] at hcell hsl
  generalize topv wi leaf f (hf n) i 1 (ps.take D) = T at *
  generalize ps[D] = A at *
  generalize stpv wi leaf f (hf n) i (ps.take D) = SS at *
  generalize dep f (hf n) i 1 = DD at *
  rw [hlen]
  have hnd := nd_len wi hw1 hw32 T A
  have hnode : ∀ w' x y, GR w' → Sl w' x T → Sl w' y A → Calls Tryd.prog 52 #[.int .i64 wi, x, y] w' fun e w'' => ∃ yo yc, e = .returned (.slice yo wi yc) ∧ Sl w'' (.slice yo wi yc) (nd wi T A) ∧ Fr (fun _ => False) w' w'' := fun w' x y h1 h2 h3 => by
    refine (gnode_any (wi : Int) x y T A w' h1 h2.s h3.s h2.b h3.b (by omega) (by omega)).mono ?_
    rintro e w'' ⟨yo, yc, rfl, hO⟩
    have hs := hO.sl (nd_lt _ _ _)
    rw [hnd] at hs ⊢
    exact ⟨yo, yc, rfl, hs, hO.fr⟩
  have q1 : ((n : Int) == 1) = false := beq_false_of_ne (by omega)
  have q2 : ¬ n = 1 := by omega
  have q3 : (((D : Int) + 1) == 0) = false := beq_false_of_ne (by omega)
  have q4 : ¬ (D : Int) + 1 = 0 := by omega
  have q5 : IntKind.i64.wrap ((D : Int) + 1 - 1) = (D : Int) := by rw [IntKind.wrap_i64]; omega
  have q6 : (D : Int) < (D : Int) + 1 := by omega
  have q7 : (D : Int) ≤ (xc : Int) := by omega
  have q8 : ((i - f : Nat) : Int) < ((hf n : Nat) : Int) := by omega
  have HC := hide (And.intro hha (And.intro ih (And.intro hnode (And.intro hr (And.intro hsl hSL)))))
  clear hha ih hnode hr hsl hSL hp hTw hAw htl hnd hdp htv hst hdl hgl hpw hll hlen hne hi hfi hlt hpos h2 hn
  generalize i - f = I at *
  generalize hf n = K at *
  go_enter Tryd.func82, Tryd.ntmps82
  go_wp2_with fail
  refine (unhide HC).1.mono ?_
  rintro e w0 ⟨rfl, rfl⟩
  go_wp2_with fail
  refine ((unhide HC).2.1 _ (by first | exact Fr.refl _ _ | exact (Fr.refl _ _).drew)).mono ?_
  rintro e w1 ⟨hA, hB, hF⟩
  by_cases hd : D = DD
  · obtain ⟨ho, hn, hc, so, sc, ss, rfl, hS, hO, hK⟩ := hA hd
    have hsl' : ss.length = SS.length := hK.1
    have H1 := hide (And.intro hS (And.intro hO (And.intro hK (And.intro hF (And.intro hd hsl')))))
    clear hA hB hS hO hK hF hd hsl'
    go_wp2_with fail
    obtain ⟨W2, hW2⟩ : ∃ W2, w1.alloc (.cells #[.slice ho hn hc, .slice vo wi vc, .bool true] 121) = W2 := ⟨_, rfl⟩
    rw [hW2]
    obtain ⟨z0, z1, z2, hF2⟩ := box3s w1 _ _ _ _ W2 hW2
    obtain ⟨W3, hW3⟩ : ∃ W3, W2.alloc (.cells #[.slice ho hn hc, .slice vo wi vc, .bool true] 121) = W3 := ⟨_, rfl⟩
    rw [hW3]
    have hsz : w1.heap.size + 1 = W2.heap.size := by rw [← hW2]; simp
    rw [hsz]
    have hT0 := OT.lit (Fr.refl _ W2) ho hn hc vo wi vc true W3 hW3
    have HZ := hide (And.intro z0 (And.intro z1 (And.intro z2 (And.intro hF2 hT0))))
    clear z0 z1 z2 hF2 hT0 hW2 hW3 hsz
    generalize w1.heap.size = P at *
    generalize hSN : ss.length = SN at *
    go_loopw [22, 23] (fun dv iv wr => ∃ (k : Nat), k ≤ SN ∧ iv = .int .i64 (k : Nat) ∧ OT W2 wr dv ((.slice ho hn hc, .slice vo wi vc, true) :: ss.take k)) (fun _ iv _ => SN - (intOf iv).toNat)
    case atStart => exact ⟨0, Nat.zero_le _, rfl, (unhide HZ).2.2.2.2⟩
    case round =>
      obtain ⟨k, hk, rfl, hT⟩ := hrel
      have hSD : SN = D := by have h1 := (unhide H1).2.2.2.2.2; have h2 := (unhide HC).2.2.2.2.2; have h3 := (unhide H1).2.2.2.2.1; omega
      have htl : (((Value.slice ho hn hc, Value.slice vo wi vc, true) :: ss.take k) : List (Value × Value × Bool)).length = k + 1 := by rw [List.length_cons, List.length_take]; omega
      by_cases hlt : k < SN
      · have hlt' : (k : Int) < (SN : Int) := by omega
        have hks : k < ss.length := by omega
        have hF1r : Fr (fun _ => False) w1 wr := (unhide HZ).2.2.2.1.trans hT.fr (fun _ _ h => h)
        obtain ⟨g2, rfl, e0, e1, e2⟩ := (unhide H1).2.1.cell hF1r k hks
        obtain ⟨la, ln', lc', ra, rn, rc, es⟩ := (unhide H1).2.2.1.form k hks
        have htk : ss.take (k + 1) = ss.take k ++ [ss[k]] := by rw [List.take_add_one, List.getElem?_eq_getElem hks]; rfl
        generalize ss[k].2.2 = b at *
        rw [es] at e0 e1 htk
        simp only at e0 e1
        obtain ⟨ao, cap, w', hr, hown, hgrow⟩ := app_step wr W2.heap.size _ _ la ln' lc' ra rn rc b hT.own (by rw [htl]; omega) hT.fr.size
        obtain ⟨da, dc, rfl⟩ := hT.form
        rw [htl] at hr hown
        have hT2 : OT W2 w' (.slice ao (k + 1 + 1) cap) ((.slice ho hn hc, .slice vo wi vc, true) :: ss.take (k + 1)) := by
          refine ⟨?_, (hT.fr.alloc _).grown hgrow (fun g hg => .inr (hT.own.lt g hg).1)⟩
          have e : (((Value.slice ho hn hc, Value.slice vo wi vc, true) :: ss.take (k + 1)) : List (Value × Value × Bool)).length = k + 1 + 1 := by rw [List.length_cons, List.length_take]; omega
          rw [e, htk, ← List.cons_append]
          exact hown
        have w1' : IntKind.i64.wrap ((k : Int) + 1) = (k : Int) + 1 := by rw [IntKind.wrap_i64]; omega
        have HR := hide hr
        have HT := hide hT2
        have hk8 : k < 8000000 := by omega
        clear hr hown hgrow hT hT2 htk es hF1r hSD
        rw [htl]
        clear htl
        go_wp2_with (at_builtin; refine wpList_app rfl (.tmp 86) (.tmp 91) 105 105 rfl _ _ _ rfl rfl (unhide HR) ?_)
        exact ⟨⟨k + 1, by omega, by go_num, unhide HT⟩, by simp [intOf]; omega⟩
      · have hlt' : ¬ (k : Int) < (SN : Int) := by omega
        rw [List.take_of_length_le (by omega)] at hT htl
        have c0 := (hT.fr.cell (lt_of_cell (unhide HZ).1) (fun h => h)).trans (unhide HZ).1
        have c1 := (hT.fr.cell (lt_of_cell (unhide HZ).2.1) (fun h => h)).trans (unhide HZ).2.1
        obtain ⟨da, dc, rfl⟩ := hT.form
        have hFw : Fr (fun _ => False) w1 wr := (unhide HZ).2.2.2.1.trans hT.fr (fun _ _ h => h)
        have HT := hide (And.intro hT (And.intro hFw htl))
        rw [htl]
        clear hT htl hFw hSD
        go_wp2_with fail
        refine ((unhide HC).2.2.1 wr _ _ ((unhide HC).2.2.2.1.fr0 ((unhide H1).2.2.2.1.trans (unhide HT).2.1 (fun _ _ h => h))) ((unhide H1).1.fr0 (unhide HT).2.1) ((unhide HC).2.2.2.2.1.fr0 ((unhide H1).2.2.2.1.trans (unhide HT).2.1 (fun _ _ h => h)))).mono ?_
        rintro e w5 ⟨yo, yc, rfl, hS5, hF5⟩
        have H5 := hide (And.intro hS5 hF5)
        clear hS5 hF5
        go_wp2_with fail
        go_returns
        have hF15 := (unhide HT).2.1.trans (unhide H5).2 (fun _ _ h => h)
        have hF05 := (unhide H1).2.2.2.1.trans hF15 (fun _ _ h => h)
        refine ⟨fun _ => ⟨yo, wi, yc, da, dc, (.slice ho hn hc, .slice vo wi vc, true) :: ss, by rw [(unhide HT).2.2]; rfl, (unhide H5).1, ?_, ?_⟩, fun h => absurd (by have := (unhide H1).2.2.2.2.1; omega) h, hF05⟩
        · exact ((unhide HT).1.fr0 (unhide H5).2).base ((unhide H1).2.2.2.1.trans (unhide HZ).2.2.2.1 (fun _ _ h => h))
        · exact StOk.cons ((unhide H1).1.fr0 hF15) ((unhide HC).2.2.2.2.1.fr0 hF05) rfl ((unhide H1).2.2.1.fr0 hF15)
  · obtain ⟨ho, hn, hc, rfl⟩ := hB hd
    have H1 := hide (And.intro hF hd)
    clear hA hB hF hd
    go_wp2_with fail
    go_returns
    exact ⟨fun h => absurd (by omega) (unhide H1).2, fun _ => ⟨none, 0, 0, rfl⟩, (unhide H1).1⟩
end Go.Proofs.YtjokmlnghpnlbaaDoor

namespace Go.Proofs.YtjokmlnghpnlbaaDoor
open Go.RowKit

set_option maxRecDepth 100000 in
set_option maxHeartbeats 4000000 in
/-- A step down to the right. -/
theorem climb_right (wi : Nat) (hw1 : 1 ≤ wi) (hw32 : wi ≤ 32) (leaf : List Nat) (lo : Option Addr) (ln lc : Nat) (f n i D : Nat) (ps : List (List Nat)) (vs : List Value) (g o xc : Nat) (w : World) (hr : GR w) (hp : Pcs w (.slice (some ⟨g, o, none⟩) (D + 1) xc) vs ps) (hcap : D + 1 ≤ xc) (hlen : ps.length = D + 1) (hD8 : D < 8000000) (h2 : 2 ≤ n) (hn : n < 9223372036854775808) (hin : i < f + n) (hi : ¬ i < f + hf n) (hll : leaf.length = wi) (hpw : ∀ p ∈ ps, p.length = wi)
    (ih : ∀ w', Fr (fun _ => False) w w' → ClSays wi leaf (.slice lo ln lc) (f + hf n) (n - hf n) i (ps.take D) (.slice (some ⟨g, o, none⟩) D xc) w') : ClSays wi leaf (.slice lo ln lc) f n i ps (.slice (some ⟨g, o, none⟩) (D + 1) xc) w := by
  have hlt := hf_lt n h2
  have hpos := hf_pos n
  obtain ⟨g', o', vo, vc, eg, hcell, hsl⟩ := hp.nth (Fr.refl _ _) D (by omega)
  cases eg
  have hdl : ps.dropLast = ps.take D := by rw [List.dropLast_eq_take, hlen]; rfl
  have hgl : ps.getLastD [] = ps[D] := getLastD_at ps D hlen
  have hne : ¬ (f = i ∧ n = 1) := by omega
  have hdp := dep_r h2 hne hi
  have htv := topv_r (wi := wi) (r := leaf) (p := ps) h2 hne hi
  have hst : stpv wi leaf f n i ps = (ps.getLastD [], topv wi leaf (f + hf n) (n - hf n) i 1 ps.dropLast, false) :: stpv wi leaf (f + hf n) (n - hf n) i ps.dropLast := by
    conv => lhs; rw [stpv, dif_neg (by omega), if_neg hi]
  rw [hdl, hgl] at htv hst
  have hTw := topv_wid wi hw1 hw32 leaf hll _ (f + hf n) (n - hf n) i 1 (ps.take D) (Nat.le_refl _)
  have hAw := hpw ps[D] (List.getElem_mem _)
  have htl : (ps.take D).length = D := by rw [List.length_take]; omega
  have hha := half_any n w hn h2
  have hI : i - (f + hf n) = (i - f) - hf n := by omega
  have hI2 : hf n ≤ i - f := by omega
  have hI3 : i - f < n := by omega
  have hSL := stpv_len wi leaf _ (f + hf n) (n - hf n) i (ps.take D) (Nat.le_refl _)
  unfold ClSays at ih ⊢
  rw [hdp, htv, hst]
  rw [htl, hI] at ih
  rw [hAw] at hcell hsl
  generalize topv wi leaf (f + hf n) (n - hf n) i 1 (ps.take D) = T at *
  generalize ps[D] = A at *
  generalize stpv wi leaf (f + hf n) (n - hf n) i (ps.take D) = SS at *
  generalize dep (f + hf n) (n - hf n) i 1 = DD at *
  rw [hlen]
  have hnd := nd_len wi hw1 hw32 A T
  have hnode : ∀ w' x y, GR w' → Sl w' x A → Sl w' y T → Calls Tryd.prog 52 #[.int .i64 wi, x, y] w' fun e w'' => ∃ yo yc, e = .returned (.slice yo wi yc) ∧ Sl w'' (.slice yo wi yc) (nd wi A T) ∧ Fr (fun _ => False) w' w'' := fun w' x y h1 h2 h3 => by
    refine (gnode_any (wi : Int) x y A T w' h1 h2.s h3.s h2.b h3.b (by omega) (by omega)).mono ?_
    rintro e w'' ⟨yo, yc, rfl, hO⟩
    have hs := hO.sl (nd_lt _ _ _)
    rw [hnd] at hs ⊢
    exact ⟨yo, yc, rfl, hs, hO.fr⟩
  have q1 : ((n : Int) == 1) = false := beq_false_of_ne (by omega)
  have q2 : ¬ n = 1 := by omega
  have q3 : (((D : Int) + 1) == 0) = false := beq_false_of_ne (by omega)
  have q4 : ¬ (D : Int) + 1 = 0 := by omega
  have q5 : IntKind.i64.wrap ((D : Int) + 1 - 1) = (D : Int) := by rw [IntKind.wrap_i64]; omega
  have q6 : (D : Int) < (D : Int) + 1 := by omega
  have q7 : (D : Int) ≤ (xc : Int) := by omega
  have q8 : ¬ ((i - f : Nat) : Int) < ((hf n : Nat) : Int) := by omega
  have q9 : ¬ i - f < hf n := by omega
  have q10 : IntKind.i64.wrap (((i - f : Nat) : Int) - ((hf n : Nat) : Int)) = (((i - f) - hf n : Nat) : Int) := by rw [IntKind.wrap_i64]; omega
  have q11 : IntKind.i64.wrap ((n : Int) - ((hf n : Nat) : Int)) = ((n - hf n : Nat) : Int) := by rw [IntKind.wrap_i64]; omega
  have HC := hide (And.intro hha (And.intro ih (And.intro hnode (And.intro hr (And.intro hsl hSL)))))
  clear hha ih hnode hr hsl hSL hp hTw hAw htl hnd hdp htv hst hdl hgl hpw hll hlen hne hi hin hlt hpos h2 hn hI hI2 hI3
  generalize (i - f) - hf n = IK at *
  generalize n - hf n = NK at *
  generalize i - f = I at *
  generalize hf n = K at *
  go_enter Tryd.func82, Tryd.ntmps82
  go_wp2_with fail
  refine (unhide HC).1.mono ?_
  rintro e w0 ⟨rfl, rfl⟩
  go_wp2_with fail
  refine ((unhide HC).2.1 _ (by first | exact Fr.refl _ _ | exact (Fr.refl _ _).drew)).mono ?_
  rintro e w1 ⟨hA, hB, hF⟩
  by_cases hd : D = DD
  · obtain ⟨ho, hn, hc, so, sc, ss, rfl, hS, hO, hK⟩ := hA hd
    have hsl' : ss.length = SS.length := hK.1
    have H1 := hide (And.intro hS (And.intro hO (And.intro hK (And.intro hF (And.intro hd hsl')))))
    clear hA hB hS hO hK hF hd hsl'
    go_wp2_with fail
    obtain ⟨W2, hW2⟩ : ∃ W2, w1.alloc (.cells #[.slice vo wi vc, .slice ho hn hc, .bool false] 121) = W2 := ⟨_, rfl⟩
    rw [hW2]
    obtain ⟨z0, z1, z2, hF2⟩ := box3s w1 _ _ _ _ W2 hW2
    obtain ⟨W3, hW3⟩ : ∃ W3, W2.alloc (.cells #[.slice vo wi vc, .slice ho hn hc, .bool false] 121) = W3 := ⟨_, rfl⟩
    rw [hW3]
    have hsz : w1.heap.size + 1 = W2.heap.size := by rw [← hW2]; simp
    rw [hsz]
    have hT0 := OT.lit (Fr.refl _ W2) vo wi vc ho hn hc false W3 hW3
    have HZ := hide (And.intro z0 (And.intro z1 (And.intro z2 (And.intro hF2 hT0))))
    clear z0 z1 z2 hF2 hT0 hW2 hW3 hsz
    generalize w1.heap.size = P at *
    generalize hSN : ss.length = SN at *
    go_loopw [22, 23] (fun dv iv wr => ∃ (k : Nat), k ≤ SN ∧ iv = .int .i64 (k : Nat) ∧ OT W2 wr dv ((.slice vo wi vc, .slice ho hn hc, false) :: ss.take k)) (fun _ iv _ => SN - (intOf iv).toNat)
    case atStart => exact ⟨0, Nat.zero_le _, rfl, (unhide HZ).2.2.2.2⟩
    case round =>
      obtain ⟨k, hk, rfl, hT⟩ := hrel
      have hSD : SN = D := by have h1 := (unhide H1).2.2.2.2.2; have h2 := (unhide HC).2.2.2.2.2; have h3 := (unhide H1).2.2.2.2.1; omega
      have htl : (((Value.slice vo wi vc, Value.slice ho hn hc, false) :: ss.take k) : List (Value × Value × Bool)).length = k + 1 := by rw [List.length_cons, List.length_take]; omega
      by_cases hlt : k < SN
      · have hlt' : (k : Int) < (SN : Int) := by omega
        have hks : k < ss.length := by omega
        have hF1r : Fr (fun _ => False) w1 wr := (unhide HZ).2.2.2.1.trans hT.fr (fun _ _ h => h)
        obtain ⟨g2, rfl, e0, e1, e2⟩ := (unhide H1).2.1.cell hF1r k hks
        obtain ⟨la, ln', lc', ra, rn, rc, es⟩ := (unhide H1).2.2.1.form k hks
        have htk : ss.take (k + 1) = ss.take k ++ [ss[k]] := by rw [List.take_add_one, List.getElem?_eq_getElem hks]; rfl
        generalize ss[k].2.2 = b at *
        rw [es] at e0 e1 htk
        simp only at e0 e1
        obtain ⟨ao, cap, w', hr, hown, hgrow⟩ := app_step wr W2.heap.size _ _ la ln' lc' ra rn rc b hT.own (by rw [htl]; omega) hT.fr.size
        obtain ⟨da, dc, rfl⟩ := hT.form
        rw [htl] at hr hown
        have hT2 : OT W2 w' (.slice ao (k + 1 + 1) cap) ((.slice vo wi vc, .slice ho hn hc, false) :: ss.take (k + 1)) := by
          refine ⟨?_, (hT.fr.alloc _).grown hgrow (fun g hg => .inr (hT.own.lt g hg).1)⟩
          have e : (((Value.slice vo wi vc, Value.slice ho hn hc, false) :: ss.take (k + 1)) : List (Value × Value × Bool)).length = k + 1 + 1 := by rw [List.length_cons, List.length_take]; omega
          rw [e, htk, ← List.cons_append]
          exact hown
        have w1' : IntKind.i64.wrap ((k : Int) + 1) = (k : Int) + 1 := by rw [IntKind.wrap_i64]; omega
        have HR := hide hr
        have HT := hide hT2
        have hk8 : k < 8000000 := by omega
        clear hr hown hgrow hT hT2 htk es hF1r hSD
        rw [htl]
        clear htl
        go_wp2_with (at_builtin; refine wpList_app rfl (.tmp 86) (.tmp 91) 105 105 rfl _ _ _ rfl rfl (unhide HR) ?_)
        exact ⟨⟨k + 1, by omega, by go_num, unhide HT⟩, by simp [intOf]; omega⟩
      · have hlt' : ¬ (k : Int) < (SN : Int) := by omega
        rw [List.take_of_length_le (by omega)] at hT htl
        have c0 := (hT.fr.cell (lt_of_cell (unhide HZ).1) (fun h => h)).trans (unhide HZ).1
        have c1 := (hT.fr.cell (lt_of_cell (unhide HZ).2.1) (fun h => h)).trans (unhide HZ).2.1
        obtain ⟨da, dc, rfl⟩ := hT.form
        have hFw : Fr (fun _ => False) w1 wr := (unhide HZ).2.2.2.1.trans hT.fr (fun _ _ h => h)
        have HT := hide (And.intro hT (And.intro hFw htl))
        rw [htl]
        clear hT htl hFw hSD
        go_wp2_with fail
        refine ((unhide HC).2.2.1 wr _ _ ((unhide HC).2.2.2.1.fr0 ((unhide H1).2.2.2.1.trans (unhide HT).2.1 (fun _ _ h => h))) ((unhide HC).2.2.2.2.1.fr0 ((unhide H1).2.2.2.1.trans (unhide HT).2.1 (fun _ _ h => h))) ((unhide H1).1.fr0 (unhide HT).2.1)).mono ?_
        rintro e w5 ⟨yo, yc, rfl, hS5, hF5⟩
        have H5 := hide (And.intro hS5 hF5)
        clear hS5 hF5
        go_wp2_with fail
        go_returns
        have hF15 := (unhide HT).2.1.trans (unhide H5).2 (fun _ _ h => h)
        have hF05 := (unhide H1).2.2.2.1.trans hF15 (fun _ _ h => h)
        refine ⟨fun _ => ⟨yo, wi, yc, da, dc, (.slice vo wi vc, .slice ho hn hc, false) :: ss, by rw [(unhide HT).2.2]; rfl, (unhide H5).1, ?_, ?_⟩, fun h => absurd (by have := (unhide H1).2.2.2.2.1; omega) h, hF05⟩
        · exact ((unhide HT).1.fr0 (unhide H5).2).base ((unhide H1).2.2.2.1.trans (unhide HZ).2.2.2.1 (fun _ _ h => h))
        · exact StOk.cons ((unhide HC).2.2.2.2.1.fr0 hF05) ((unhide H1).1.fr0 hF15) rfl ((unhide H1).2.2.1.fr0 hF15)
  · obtain ⟨ho, hn, hc, rfl⟩ := hB hd
    have H1 := hide (And.intro hF hd)
    clear hA hB hF hd
    go_wp2_with fail
    go_returns
    exact ⟨fun h => absurd (by omega) (unhide H1).2, fun _ => ⟨none, 0, 0, rfl⟩, (unhide H1).1⟩
/-- The document's climb. -/
theorem climb_any (wi : Nat) (hw1 : 1 ≤ wi) (hw32 : wi ≤ 32) (leaf : List Nat) (hll : leaf.length = wi) (lo : Option Addr) (ln lc : Nat) (m : Nat) : ∀ (f n i : Nat) (ps : List (List Nat)) (vs : List Value) (x : Value) (w : World), n ≤ m → 1 ≤ n → n < 9223372036854775808 → f ≤ i → i < f + n → GR w → Sl w (.slice lo ln lc) leaf → Pcs w x vs ps → Cp x → ps.length ≤ 8000000 → (∀ p ∈ ps, p.length = wi) → ClSays wi leaf (.slice lo ln lc) f n i ps x w := by
  induction m with
  | zero => intro f n i ps vs x w h h1; omega
  | succ m ih =>
    intro f n i ps vs x w h h1 hn hfi hin hr hl hp hcx hps hpw
    by_cases h2 : n = 1
    · subst h2
      exact climb_one wi leaf _ f i ps vs x w hl hp (by omega)
    · have hlt := hf_lt n (by omega)
      have hpos := hf_pos n
      by_cases h0 : ps = []
      · subst h0
        refine climb_short wi leaf _ f n i vs x w hl hp (by omega) ?_
        by_cases hi : i < f + hf n
        · rw [dep_l (by omega) (by omega) hi]; omega
        · rw [dep_r (by omega) (by omega) hi]; omega
      · obtain ⟨D, hD⟩ : ∃ D, ps.length = D + 1 := ⟨ps.length - 1, by have := List.length_pos_iff.2 h0; omega⟩
        obtain ⟨xo, xc, rfl⟩ := hp.form
        obtain ⟨g, o, v, rfl, -⟩ := hp.cell (Fr.refl _ _) 0 (by omega)
        have hcap : ps.length ≤ xc := hcx _ _ _ rfl
        rw [hD] at hp hcx hcap ⊢
        have hp' := hp.take D (by omega)
        have hcx' : Cp (.slice (some ⟨g, o, none⟩) D xc) := fun _ _ _ e => by cases e; omega
        have htl : (ps.take D).length ≤ 8000000 := by rw [List.length_take]; omega
        have hpw' : ∀ p ∈ ps.take D, p.length = wi := fun p h => hpw p (List.mem_of_mem_take h)
        by_cases hi : i < f + hf n
        · exact climb_left wi hw1 hw32 leaf lo ln lc f n i D ps vs g o xc w hr hp hcap hD (by omega) (by omega) hn hfi hi hll hpw (fun w' hf' => ih f (hf n) i _ _ _ w' (by omega) (by omega) (by omega) hfi hi (hr.fr0 hf') (hl.fr0 hf') (hp'.fr0 hf') hcx' htl hpw')
        · exact climb_right wi hw1 hw32 leaf lo ln lc f n i D ps vs g o xc w hr hp hcap hD (by omega) (by omega) hn hin hi hll hpw (fun w' hf' => ih (f + hf n) (n - hf n) i _ _ _ w' (by omega) (by omega) (by omega) (by omega) (by omega) (hr.fr0 hf') (hl.fr0 hf') (hp'.fr0 hf') hcx' htl hpw')
end Go.Proofs.YtjokmlnghpnlbaaDoor

namespace Go.Proofs.YtjokmlnghpnlbaaDoor
open Go.RowKit

theorem norm_id {a : List Nat} (h : ∀ v ∈ a, v < 256) : norm a = a := by
  rw [norm]
  conv => rhs; rw [← List.map_id a]
  exact List.map_congr_left (fun v hv => Nat.mod_eq_of_lt (h v hv))
theorem gsame_D {w : World} {x y : Value} {a b : List Nat} (hx : Sl w x a) (hy : Sl w y b) (ha : a.length ≤ 140737488355328) : Calls Tryd.prog 19 #[x, y] w fun e w' => e = .returned (.bool (decide (a = b))) ∧ Fr (fun _ => False) w w' := by
  refine (same_any x y a b w hx.s hy.s ha).mono ?_
  rintro e w' ⟨rfl, hn⟩
  refine ⟨?_, Fr.of_drewN hn⟩
  rw [sameB, norm_id hx.b, norm_id hy.b]
set_option maxRecDepth 100000 in
set_option maxHeartbeats 2000000 in
/-- The document's CheckPath. -/
theorem gcheckPath_any (j i n : Int) (lv rv x : Value) (leaf root : List Nat) (vs : List Value) (ps : List (List Nat)) (w : World) (hg_ : GR w) (hl : Sl w lv leaf) (hr : Sl w rv root) (hp : Pcs w x vs ps) (hcx : Cp x) (hn : n < 9223372036854775808) (hps : ps.length ≤ 8000000) :
    Calls Tryd.prog 56 #[.int .i64 j, lv, .int .i64 i, .int .i64 n, x, rv] w fun e w' => e = .returned (.bool (chkP j leaf i n ps root)) ∧ Fr (fun _ => False) w w' := by
  obtain ⟨lo, lc, rfl⟩ := hl.form
  obtain ⟨rr, rc, rfl⟩ := hr.form
  obtain ⟨xo, xc, rfl⟩ := hp.form
  by_cases h1o : j < 1 ∨ 32 < j
  · have h1 : ¬ (1 ≤ j ∧ j ≤ 32) := by omega
    have hB : chkP j leaf i n ps root = false := by rw [chkP, decide_eq_false h1]; rfl
    rw [hB]
    have HM := hide h1o
    clear hg_ hl hr hp hcx hn hps hB h1 h1o
    generalize leaf.length = LL at *
    generalize root.length = RL at *
    generalize ps.length = PL at *
    go_enter Tryd.func56, Tryd.ntmps56
    go_wp2_with fail
    refine (may_no j _ (unhide HM)).mono ?_
    rintro e' w0 ⟨rfl, rfl⟩
    go_wp2_with fail
    go_ret
    exact ⟨rfl, Fr.refl _ _⟩
  · have h1 : 1 ≤ j ∧ j ≤ 32 := by omega
    clear h1o
    have HM := hide h1
    by_cases h2' : i < 0
    · have h2 : ¬ 0 ≤ i := by omega
      have hB : chkP j leaf i n ps root = false := by rw [chkP, decide_eq_true h1, decide_eq_false h2]; rfl
      rw [hB]
      clear hg_ hl hr hp hcx hn hps hB h1
      generalize leaf.length = LL at *
      generalize root.length = RL at *
      generalize ps.length = PL at *
      go_enter Tryd.func56, Tryd.ntmps56
      go_wp2_with fail
      refine (may_yes j _ (unhide HM).1 (unhide HM).2).mono ?_
      rintro e' w0 ⟨rfl, rfl⟩
      go_wp2_with fail
      go_ret
      exact ⟨rfl, Fr.refl _ _⟩
    · have h2 : 0 ≤ i := by omega
      by_cases h3' : n ≤ i
      · have h3 : ¬ i < n := by omega
        have hB : chkP j leaf i n ps root = false := by rw [chkP, decide_eq_true h1, decide_eq_true h2, decide_eq_false h3]; rfl
        rw [hB]
        clear hg_ hl hr hp hcx hn hps hB h1
        generalize leaf.length = LL at *
        generalize root.length = RL at *
        generalize ps.length = PL at *
        go_enter Tryd.func56, Tryd.ntmps56
        go_wp2_with fail
        refine (may_yes j _ (unhide HM).1 (unhide HM).2).mono ?_
        rintro e' w0 ⟨rfl, rfl⟩
        go_wp2_with fail
        go_ret
        exact ⟨rfl, Fr.refl _ _⟩
      · have h3 : i < n := by omega
        have hce : chkP j leaf i n ps root = (wdq j [leaf, root] && (wdq j ps && (decide (ps.length = dep 0 n.toNat i.toNat 1) && decide (topv j.toNat leaf 0 n.toNat i.toNat 1 ps = root)))) := by
          rw [chkP, decide_eq_true h1, decide_eq_true h2, decide_eq_true h3]; rfl
        by_cases h4 : (leaf.length : Int) = j
        · by_cases h5 : (root.length : Int) = j
          · have hq1 : wdq j [leaf, root] = true := by simp [wdq, h4, h5]
            clear hce
            have hwd := gwide_any j _ vs ps w hp (by omega)
            obtain ⟨wi, rfl⟩ : ∃ k : Nat, j = (k : Int) := ⟨j.toNat, by omega⟩
            obtain ⟨I, rfl⟩ : ∃ k : Nat, i = (k : Int) := ⟨i.toNat, by omega⟩
            obtain ⟨N, rfl⟩ : ∃ k : Nat, n = (k : Int) := ⟨n.toNat, by omega⟩
            have hce : chkP wi leaf I N ps root = (wdq wi [leaf, root] && (wdq wi ps && (decide (ps.length = dep 0 N I 1) && decide (topv wi leaf 0 N I 1 ps = root)))) := by
              rw [chkP, decide_eq_true h1, decide_eq_true h2, decide_eq_true h3]; rfl
            rw [hce, hq1, Bool.true_and]
            clear hce hq1
            have h2'' : ¬ (I : Int) < 0 := by omega
            have h3'' : ¬ (N : Int) ≤ (I : Int) := by omega
            have h6 : ¬ N ≤ I := by omega
            have hlw : leaf.length = wi := by omega
            have hrw : root.length = wi := by omega
            rw [hlw] at hl ⊢
            rw [hrw] at hr ⊢
            cases hq2 : wdq wi ps with
            | false =>
              rw [hq2] at hwd
              rw [Bool.false_and]
              have HC := hide hwd
              clear hg_ hl hr hp hcx hn hps h1 h2 h3 hwd hq2 h4 h5 h2' h3' hlw hrw
              generalize ps.length = PL at *
              go_enter Tryd.func56, Tryd.ntmps56
              go_wp2_with fail
              refine (may_yes wi _ (unhide HM).1 (unhide HM).2).mono ?_
              rintro e' w0 ⟨rfl, rfl⟩
              go_wp2_with fail
              refine (unhide HC).mono ?_
              rintro e' w1 ⟨rfl, rfl⟩
              go_wp2_with fail
              go_ret
              exact ⟨rfl, Fr.refl _ _⟩
            | true =>
              rw [hq2] at hwd
              rw [Bool.true_and]
              have hpw : ∀ p ∈ ps, p.length = wi := fun p hp => by have := wdq_true hq2 p hp; omega
              have hcl := climb_any wi (by omega) (by omega) leaf hlw lo wi lc N 0 N I ps vs _ w (Nat.le_refl _) (by omega) (by omega) (by omega) (by omega) hg_ hl hp hcx hps hpw
              unfold ClSays at hcl
              rw [Nat.sub_zero] at hcl
              have hTw := topv_wid wi (by omega) (by omega) leaf hlw _ 0 N I 1 ps (Nat.le_refl _)
              generalize topv wi leaf 0 N I 1 ps = T at *
              generalize stpv wi leaf 0 N I ps = SS at *
              by_cases hd : ps.length = dep 0 N I 1
              · rw [decide_eq_true hd, Bool.true_and]
                obtain ⟨BB, hBB⟩ : ∃ BB, decide (T = root) = BB := ⟨_, rfl⟩
                rw [hBB]
                have HC := hide (And.intro hwd (And.intro hcl (And.intro hd (And.intro hr (And.intro hBB hTw)))))
                clear hg_ hl hr hp hcx hn hps h1 h2 h3 hwd hq2 h4 h5 h2' h3' hlw hrw hpw hcl hTw hBB hd
                generalize ps.length = PL at *
                go_enter Tryd.func56, Tryd.ntmps56
                go_wp2_with fail
                refine (may_yes wi _ (unhide HM).1 (unhide HM).2).mono ?_
                rintro e' w0 ⟨rfl, rfl⟩
                go_wp2_with fail
                refine (unhide HC).1.mono ?_
                rintro e' w1 ⟨rfl, rfl⟩
                go_wp2_with fail
                refine (unhide HC).2.1.mono ?_
                rintro e' w2 ⟨hA, -, hF⟩
                obtain ⟨ho, hn, hc, so, sc, ss, rfl, hS, -, -⟩ := hA (unhide HC).2.2.1
                have H1 := hide (And.intro hS hF)
                clear hA hS hF
                generalize ss.length = SN at *
                go_wp2_with fail
                refine (gsame_D (unhide H1).1 ((unhide HC).2.2.2.1.fr0 (unhide H1).2) (by have h1 := (unhide HC).2.2.2.2.2; have h2 := (unhide HM).2; omega)).mono ?_
                rintro e' w3 ⟨rfl, hF⟩
                rw [(unhide HC).2.2.2.2.1]
                have H2 := hide ((unhide H1).2.trans hF (fun _ _ h => h))
                clear hF
                go_wp2_with fail
                go_ret
                exact ⟨rfl, unhide H2⟩
              · rw [decide_eq_false hd, Bool.false_and]
                have HC := hide (And.intro hwd (And.intro hcl hd))
                clear hg_ hl hr hp hcx hn hps h1 h2 h3 hwd hq2 h4 h5 h2' h3' hlw hrw hpw hcl hTw hd
                generalize ps.length = PL at *
                go_enter Tryd.func56, Tryd.ntmps56
                go_wp2_with fail
                refine (may_yes wi _ (unhide HM).1 (unhide HM).2).mono ?_
                rintro e' w0 ⟨rfl, rfl⟩
                go_wp2_with fail
                refine (unhide HC).1.mono ?_
                rintro e' w1 ⟨rfl, rfl⟩
                go_wp2_with fail
                refine (unhide HC).2.1.mono ?_
                rintro e' w2 ⟨-, hB, hF⟩
                obtain ⟨ho, hn, hc, rfl⟩ := hB (unhide HC).2.2
                have H1 := hide hF
                clear hB hF
                go_wp2_with fail
                go_ret
                exact ⟨rfl, unhide H1⟩
          · have hB : chkP j leaf i n ps root = false := by
              rw [hce, wdq_false j [leaf, root] 1 (by simp) (by simpa using h5)]; rfl
            rw [hB]
            have q5 : ((root.length : Int) == j) = false := beq_false_of_ne h5
            have q4 : ((leaf.length : Int) == j) = true := by rw [h4]; simp
            clear hce
            clear hg_ hl hr hp hcx hn hps hB h1
            generalize leaf.length = LL at *
            generalize root.length = RL at *
            generalize ps.length = PL at *
            go_enter Tryd.func56, Tryd.ntmps56
            go_wp2_with fail
            refine (may_yes j _ (unhide HM).1 (unhide HM).2).mono ?_
            rintro e' w0 ⟨rfl, rfl⟩
            go_wp2_with fail
            go_ret
            exact ⟨rfl, Fr.refl _ _⟩
        · have hB : chkP j leaf i n ps root = false := by
            rw [hce, wdq_false j [leaf, root] 0 (by simp) (by simpa using h4)]; rfl
          rw [hB]
          have q4 : ((leaf.length : Int) == j) = false := beq_false_of_ne h4
          clear hce
          clear hg_ hl hr hp hcx hn hps hB h1
          generalize leaf.length = LL at *
          generalize root.length = RL at *
          generalize ps.length = PL at *
          go_enter Tryd.func56, Tryd.ntmps56
          go_wp2_with fail
          refine (may_yes j _ (unhide HM).1 (unhide HM).2).mono ?_
          rintro e' w0 ⟨rfl, rfl⟩
          go_wp2_with fail
          go_ret
          exact ⟨rfl, Fr.refl _ _⟩
end Go.Proofs.YtjokmlnghpnlbaaDoor

namespace Go.Proofs.YtjokmlnghpnlbaaDoor
open Go.RowKit

/-- May a secret be? -/
def okS (j K J V : Int) : Prop := (1 ≤ j ∧ j ≤ 32) ∧ (0 ≤ K ∧ K < 64) ∧ (0 ≤ J ∧ J < 8 * j) ∧ 0 ≤ V ∧ V < 2
instance (j K J V : Int) : Decidable (okS j K J V) := by unfold okS; infer_instance
def scF (j K J V : Int) (seed : List Nat) : List Nat := if okS j K J V then sm j (scm K.toNat J.toNat V.toNat seed) else []
theorem scF_lt (j K J V : Int) (seed : List Nat) : ∀ v ∈ scF j K J V seed, v < 256 := by
  unfold scF
  split
  · exact sm_lt _ _
  · intro v hv; cases hv
theorem scF_len (j K J V : Int) (seed : List Nat) : (scF j K J V seed).length ≤ 32 := by
  unfold scF
  split
  · rename_i h
    rw [sm_len h.1]; have := h.1; omega
  · exact Nat.zero_le _
/-- lamport.Secret. -/
theorem lsecret_any (j K J V : Int) (x : Value) (seed : List Nat) (w : World) (hg : GS w) (hx : Sl w x seed) (hs : seed.length ≤ 15000000) :
    Calls Tryd.prog 10 #[.int .i64 j, x, .int .i64 K, .int .i64 J, .int .i64 V] w fun e w' => ∃ yo yc, e = .returned (.slice yo (scF j K J V seed).length yc) ∧ OB w w' yo yc (scF j K J V seed) := by
  by_cases h : okS j K J V
  · have e : scF j K J V seed = sm j (scm K.toNat J.toNat V.toNat seed) := by rw [scF, if_pos h]
    obtain ⟨h1, h2, h3, h4⟩ := h
    obtain ⟨wi, rfl⟩ : ∃ n : Nat, j = (n : Int) := ⟨j.toNat, by omega⟩
    obtain ⟨k, rfl⟩ : ∃ n : Nat, K = (n : Int) := ⟨K.toNat, by omega⟩
    obtain ⟨b, rfl⟩ : ∃ n : Nat, J = (n : Int) := ⟨J.toNat, by omega⟩
    obtain ⟨v, rfl⟩ : ∃ n : Nat, V = (n : Int) := ⟨V.toNat, by omega⟩
    simp only [Int.toNat_natCast] at e
    have hl : (scF (wi : Int) k b v seed).length = wi := by rw [e, sm_len ⟨by omega, by omega⟩, Int.toNat_natCast]
    rw [hl]
    refine (lsecret_in wi k b v (by omega) (by omega) (by omega) (by omega) (by omega) x seed w hg hx (by omega)).mono ?_
    rintro e' w' ⟨yo, rfl, hO⟩
    exact ⟨yo, wi, rfl, by rw [e]; exact hO⟩
  · have e : scF j K J V seed = [] := by rw [scF, if_neg h]
    rw [e]
    refine (lsecret_no j K J V h x w).mono ?_
    rintro e' w' ⟨rfl, rfl⟩
    exact ⟨none, 0, rfl, own_nil _ _, Fr.refl _ _⟩
set_option maxRecDepth 100000 in
set_option maxHeartbeats 2000000 in
/-- The document's Secret, of what may not be. -/
theorem g5secret_no (j K J V : Int) (h : ¬ okS j K J V) (x : Value) (w : World) :
    Calls Tryd.prog 17 #[.int .i64 j, x, .int .i64 K, .int .i64 J, .int .i64 V] w fun e w' => e = .returned (.slice none 0 0) ∧ w' = w := by
  unfold okS at h
  by_cases h1 : 1 ≤ j ∧ j ≤ 32
  · have hmy := hide (may_yes j w h1.1 h1.2)
    by_cases a1 : K < 0
    · clear h
      go_enter Tryd.func17, Tryd.ntmps17
      go_wp2_with fail
      refine (unhide hmy).mono ?_
      rintro e w0 ⟨rfl, rfl⟩
      go_wp2_with fail
      go_ret
      exact ⟨rfl, rfl⟩
    · by_cases a2 : 63 < K
      · clear h
        go_enter Tryd.func17, Tryd.ntmps17
        go_wp2_with fail
        refine (unhide hmy).mono ?_
        rintro e w0 ⟨rfl, rfl⟩
        go_wp2_with fail
        go_ret
        exact ⟨rfl, rfl⟩
      · by_cases a3 : J < 0
        · clear h
          go_enter Tryd.func17, Tryd.ntmps17
          go_wp2_with fail
          refine (unhide hmy).mono ?_
          rintro e w0 ⟨rfl, rfl⟩
          go_wp2_with fail
          go_ret
          exact ⟨rfl, rfl⟩
        · have b1 := h1.1
          have b2 := h1.2
          by_cases a4 : 8 * j ≤ J
          · clear h h1
            go_enter Tryd.func17, Tryd.ntmps17
            go_wp2_with fail
            refine (unhide hmy).mono ?_
            rintro e w0 ⟨rfl, rfl⟩
            go_wp2_with fail
            go_ret
            exact ⟨rfl, rfl⟩
          · by_cases a5 : V < 0
            · clear h h1
              go_enter Tryd.func17, Tryd.ntmps17
              go_wp2_with fail
              refine (unhide hmy).mono ?_
              rintro e w0 ⟨rfl, rfl⟩
              go_wp2_with fail
              go_ret
              exact ⟨rfl, rfl⟩
            · have a6 : 1 < V := by omega
              clear h h1
              go_enter Tryd.func17, Tryd.ntmps17
              go_wp2_with fail
              refine (unhide hmy).mono ?_
              rintro e w0 ⟨rfl, rfl⟩
              go_wp2_with fail
              go_ret
              exact ⟨rfl, rfl⟩
  · have hmy := hide (may_no j w (by omega))
    clear h
    go_enter Tryd.func17, Tryd.ntmps17
    go_wp2_with fail
    refine (unhide hmy).mono ?_
    rintro e w0 ⟨rfl, rfl⟩
    go_wp2_with fail
    go_ret
    exact ⟨rfl, rfl⟩
/-- The document's Secret. -/
theorem g5secret_any (j K J V : Int) (x : Value) (seed : List Nat) (w : World) (hg : GR w) (hx : Sl w x seed) (hs : seed.length ≤ 15000000) :
    Calls Tryd.prog 17 #[.int .i64 j, x, .int .i64 K, .int .i64 J, .int .i64 V] w fun e w' => ∃ yo yc, e = .returned (.slice yo (scF j K J V seed).length yc) ∧ OB w w' yo yc (scF j K J V seed) := by
  by_cases h : okS j K J V
  · have e : scF j K J V seed = sm j (scm K.toNat J.toNat V.toNat seed) := by rw [scF, if_pos h]
    obtain ⟨h1, h2, h3, h4⟩ := h
    obtain ⟨wi, rfl⟩ : ∃ n : Nat, j = (n : Int) := ⟨j.toNat, by omega⟩
    obtain ⟨k, rfl⟩ : ∃ n : Nat, K = (n : Int) := ⟨K.toNat, by omega⟩
    obtain ⟨b, rfl⟩ : ∃ n : Nat, J = (n : Int) := ⟨J.toNat, by omega⟩
    obtain ⟨v, rfl⟩ : ∃ n : Nat, V = (n : Int) := ⟨V.toNat, by omega⟩
    simp only [Int.toNat_natCast] at e
    have hl : (scF (wi : Int) k b v seed).length = wi := by rw [e, sm_len ⟨by omega, by omega⟩, Int.toNat_natCast]
    rw [hl]
    refine (g5secret_in wi k b v (by omega) (by omega) (by omega) (by omega) (by omega) x seed w hg hx hs).mono ?_
    rintro e' w' ⟨yo, yc, rfl, hO⟩
    exact ⟨yo, yc, rfl, by rw [e]; exact hO⟩
  · have e : scF j K J V seed = [] := by rw [scF, if_neg h]
    rw [e]
    refine (g5secret_no j K J V h x w).mono ?_
    rintro e' w' ⟨rfl, rfl⟩
    exact ⟨none, 0, rfl, own_nil _ _, Fr.refl _ _⟩
end Go.Proofs.YtjokmlnghpnlbaaDoor

namespace Go.Proofs.YtjokmlnghpnlbaaDoor
open Go.RowKit

def KY8 (w : World) (kb : Nat) : Prop := ∃ base tb yo yc, KyAt w kb base tb 2 3 (.slice yo 1 yc) [5] (lvs 2 [5] 8)
def KY4 (w : World) (kb : Nat) : Prop := ∃ base tb yo yc, KyAt w kb base tb 4 2 (.slice yo 3 yc) [1, 2, 3] (lvs 4 [1, 2, 3] 4)
/-- What LamportKnown asks for. -/
structure K5 (SG PB : List Nat) : Prop where
  f8 : ∀ w' w'' kb, KY8 w' kb → Fr (fun _ => False) w' w'' → KY8 w'' kb
  f4 : ∀ w' w'' kb, KY4 w' kb → Fr (fun _ => False) w' w'' → KY4 w'' kb
  z1 : ∀ w', Calls Tryd.prog 9 #[.int .i64 32, .int .i64 6] w' fun e w'' => e = .returned (.int .i64 16576) ∧ w'' = w'
  z2 : ∀ w', Calls Tryd.prog 9 #[.int .i64 1, .int .i64 0] w' fun e w'' => e = .returned (.int .i64 16) ∧ w'' = w'
  z3 : ∀ w', Calls Tryd.prog 9 #[.int .i64 0, .int .i64 1] w' fun e w'' => e = .returned (.int .i64 0) ∧ w'' = w'
  z4 : ∀ w', Calls Tryd.prog 9 #[.int .i64 32, .int .i64 7] w' fun e w'' => e = .returned (.int .i64 0) ∧ w'' = w'
  z5 : ∀ w', Calls Tryd.prog 9 #[.int .i64 4, .int .i64 2] w' fun e w'' => e = .returned (.int .i64 264) ∧ w'' = w'
  s1 : ∀ w', Calls Tryd.prog 10 #[.int .i64 1, .slice none 0 0, .int .i64 64, .int .i64 0, .int .i64 0] w' fun e w'' => e = .returned (.slice none 0 0) ∧ w'' = w'
  s2 : ∀ w', Calls Tryd.prog 10 #[.int .i64 1, .slice none 0 0, .int .i64 0, .int .i64 8, .int .i64 0] w' fun e w'' => e = .returned (.slice none 0 0) ∧ w'' = w'
  s3 : ∀ w', Calls Tryd.prog 10 #[.int .i64 33, .slice none 0 0, .int .i64 0, .int .i64 0, .int .i64 0] w' fun e w'' => e = .returned (.slice none 0 0) ∧ w'' = w'
  s4 : ∀ w', GS w' → Calls Tryd.prog 10 #[.int .i64 1, .slice none 0 0, .int .i64 63, .int .i64 7, .int .i64 1] w' fun e w'' => ∃ yo, e = .returned (.slice yo 1 1) ∧ Fr (fun _ => False) w' w''
  n1 : ∀ w', Calls Tryd.prog 11 #[.int .i64 1, .int .i64 7, .slice none 0 0] w' fun e w'' => e = .returned (.tuple #[.pointer none, .int .i64 1]) ∧ w'' = w'
  n2 : ∀ w', Calls Tryd.prog 11 #[.int .i64 0, .int .i64 0, .slice none 0 0] w' fun e w'' => e = .returned (.tuple #[.pointer none, .int .i64 1]) ∧ w'' = w'
  n3 : ∀ w' x, GS w' → GT w' → Sl w' x [5] → Calls Tryd.prog 11 #[.int .i64 2, .int .i64 3, x] w' fun e w'' => ∃ kb, e = .returned (.tuple #[.pointer (some ⟨kb, 0, none⟩), .int .i64 0]) ∧ KY8 w'' kb ∧ Fr (fun _ => False) w' w''
  n4 : ∀ w' x, GS w' → GT w' → Sl w' x [1, 2, 3] → Calls Tryd.prog 11 #[.int .i64 4, .int .i64 2, x] w' fun e w'' => ∃ kb, e = .returned (.tuple #[.pointer (some ⟨kb, 0, none⟩), .int .i64 0]) ∧ KY4 w'' kb ∧ Fr (fun _ => False) w' w''
  len : ∀ w' kb, KY8 w' kb → Calls Tryd.prog 12 #[.pointer (some ⟨kb, 0, none⟩)] w' fun e w'' => e = .returned (.int .i64 8) ∧ w'' = w'
  leaf : ∀ w' kb, KY8 w' kb → Calls Tryd.prog 13 #[.pointer (some ⟨kb, 0, none⟩), .int .i64 8] w' fun e w'' => e = .returned (.tuple #[.slice none 0 0, .int .i64 1]) ∧ w'' = w'
  sign : ∀ w' kb x, KY4 w' kb → Sl w' x [97, 98, 99] → Calls Tryd.prog 14 #[.pointer (some ⟨kb, 0, none⟩), .int .i64 3, x] w' fun e w'' => ∃ zo zc, e = .returned (.tuple #[.slice zo 264 zc, .int .i64 0]) ∧ OB w' w'' zo zc SG
  pub : ∀ w' kb, KY4 w' kb → Calls Tryd.prog 15 #[.pointer (some ⟨kb, 0, none⟩)] w' fun e w'' => ∃ yo yc, e = .returned (.slice yo 4 yc) ∧ OB w' w'' yo yc PB
  c1 : ∀ w' pv mv sv, GS w' → Sl w' pv PB → Sl w' mv [97, 98, 99] → Sl w' sv SG → Calls Tryd.prog 16 #[.int .i64 4, .int .i64 2, pv, .int .i64 3, mv, sv] w' fun e w'' => e = .returned (.bool true) ∧ Fr (fun _ => False) w' w''
  c2 : ∀ w' pv mv sv, GS w' → Sl w' pv PB → Sl w' mv [97, 98, 99] → Sl w' sv SG → Calls Tryd.prog 16 #[.int .i64 4, .int .i64 2, pv, .int .i64 2, mv, sv] w' fun e w'' => e = .returned (.bool false) ∧ Fr (fun _ => False) w' w''
  c3 : ∀ w' pv mv sv, GS w' → Sl w' pv PB → Sl w' mv [97, 98, 100] → Sl w' sv SG → Calls Tryd.prog 16 #[.int .i64 4, .int .i64 2, pv, .int .i64 3, mv, sv] w' fun e w'' => e = .returned (.bool false) ∧ Fr (fun _ => False) w' w''
  c4 : ∀ w' pv mv sv, GS w' → Sl w' pv PB → Sl w' mv [97, 98, 99] → Sl w' sv (SG ++ [0]) → Calls Tryd.prog 16 #[.int .i64 4, .int .i64 2, pv, .int .i64 3, mv, sv] w' fun e w'' => e = .returned (.bool false) ∧ Fr (fun _ => False) w' w''
  slen : SG.length = 264
  sbyt : ∀ v ∈ SG, v < 256
  plen : PB.length = 4
  pbyt : ∀ v ∈ PB, v < 256
theorem k5 : K5 (sig 4 2 3 [1, 2, 3] (sm ((4 : Nat) : Int) [97, 98, 99])) (mth ((4 : Nat) : Int) (lvs 4 [1, 2, 3] 4)) := by
  have hz : ∀ (j h s : Int), szF j h = s → ∀ w', Calls Tryd.prog 9 #[.int .i64 j, .int .i64 h] w' fun e w'' => e = .returned (.int .i64 s) ∧ w'' = w' := fun j h s e w' => by rw [← e]; exact lsize_any j h w'
  refine ⟨?_, ?_, hz 32 6 16576 (by decide), hz 1 0 16 (by decide), hz 0 1 0 (by decide), hz 32 7 0 (by decide), hz 4 2 264 (by decide), fun w' => lsecret_no 1 64 0 0 (by decide) _ w', fun w' => lsecret_no 1 0 8 0 (by decide) _ w', fun w' => lsecret_no 33 0 0 0 (by decide) _ w', fun w' hg => ?_, fun w' => lnew_no 1 7 (by decide) _ w', fun w' => lnew_no 0 0 (by decide) _ w', fun w' x hg ht hx => ?_, fun w' x hg ht hx => ?_, fun w' kb h => ?_, fun w' kb h => ?_, fun w' kb x h hx => ?_, fun w' kb h => ?_, fun w' pv mv sv hg hp hm hs => ?_, fun w' pv mv sv hg hp hm hs => ?_, fun w' pv mv sv hg hp hm hs => ?_, fun w' pv mv sv hg hp hm hs => ?_, ?_, ?_, ?_, ?_⟩
  · rintro w' w'' kb ⟨base, tb, yo, yc, h⟩ hf
    exact ⟨base, tb, yo, yc, h.fr0 hf⟩
  · rintro w' w'' kb ⟨base, tb, yo, yc, h⟩ hf
    exact ⟨base, tb, yo, yc, h.fr0 hf⟩
  · refine (lsecret_in 1 63 7 1 (by decide) (by decide) (by decide) (by decide) (by decide) (.slice none 0 0) [] w' hg ⟨.inl ⟨rfl, rfl⟩, fun _ _ _ e => by cases e; exact Nat.le_refl _, .inl rfl, fun _ h => by cases h⟩ (by decide)).mono ?_
    rintro e w'' ⟨yo, rfl, hO⟩
    exact ⟨yo, rfl, hO.fr⟩
  · refine (lnew_in 2 3 (by decide) (by decide) (by decide) x [5] w' hg ht hx (by decide)).mono ?_
    rintro e w'' ⟨kb, base, tb, yo, yc, rfl, h, hF⟩
    exact ⟨kb, rfl, ⟨base, tb, yo, yc, h⟩, hF⟩
  · refine (lnew_in 4 2 (by decide) (by decide) (by decide) x [1, 2, 3] w' hg ht hx (by decide)).mono ?_
    rintro e w'' ⟨kb, base, tb, yo, yc, rfl, h, hF⟩
    exact ⟨kb, rfl, ⟨base, tb, yo, yc, h⟩, hF⟩
  · obtain ⟨base, tb, yo, yc, h⟩ := h
    exact lkeylen_any kb 3 (by decide) w' h.c1
  · obtain ⟨base, tb, yo, yc, h⟩ := h
    exact lleaf_no 3 kb (by decide) 8 (by decide) w' h.c1
  · obtain ⟨base, tb, yo, yc, h⟩ := h
    exact lsign_sig 4 2 kb base tb 3 (by decide) (by decide) (by decide) (by decide) yo 3 yc [1, 2, 3] w' h (by decide) x [97, 98, 99] hx (by decide)
  · obtain ⟨base, tb, yo, yc, h⟩ := h
    exact lpublic_any 4 2 kb base tb (by decide) (by decide) (by decide) _ [1, 2, 3] _ w' h (lvs_len 4 _ _)
  · have := lcheck_any 4 2 3 pv mv sv _ _ _ w' hg hp hm hs (by decide)
    have e : chkL 4 2 (mth ((4 : Nat) : Int) (lvs 4 [1, 2, 3] 4)) 3 [97, 98, 99] (sig 4 2 3 [1, 2, 3] (sm ((4 : Nat) : Int) [97, 98, 99])) = true := chkL_sig 4 2 3 (by decide) (by decide) (by decide) (by decide) [1, 2, 3] [97, 98, 99]
    rw [e] at this
    exact this
  · have := lcheck_any 4 2 2 pv mv sv _ _ _ w' hg hp hm hs (by decide)
    rw [no_key] at this
    exact this
  · have := lcheck_any 4 2 3 pv mv sv _ _ _ w' hg hp hm hs (by decide)
    rw [no_text] at this
    exact this
  · have := lcheck_any 4 2 3 pv mv sv _ _ _ w' hg hp hm hs (by decide)
    have hl := sig_len 4 2 3 (by decide) (by decide) (by decide) [1, 2, 3] (sm ((4 : Nat) : Int) [97, 98, 99])
    have e : chkL 4 2 (mth ((4 : Nat) : Int) (lvs 4 [1, 2, 3] 4)) 3 [97, 98, 99] (sig 4 2 3 [1, 2, 3] (sm ((4 : Nat) : Int) [97, 98, 99]) ++ [0]) = false := chkL_len 4 2 3 (by decide) (by decide) (by decide) _ _ _ (by rw [List.length_append, hl]; decide)
    rw [e] at this
    exact this
  · exact sig_len 4 2 3 (by decide) (by decide) (by decide) _ _
  · exact sig_lt _ _ _ _ _
  · exact pub_len 4 2 (by decide) (by decide) _
  · exact pub_lt 4 2 _
end Go.Proofs.YtjokmlnghpnlbaaDoor

namespace Go.Proofs.YtjokmlnghpnlbaaDoor
open Go.RowKit

/-- append(v, x...), where it is asked for. -/
theorem wpList_appG {P : Program} {ops : Array Oper} {rest : List Oper} {op : Oper} {a : Act} {w w' : World} {Q : Exit → Act → World → Prop} (hgd : Region.wanted op (yielded ops a.tmps) = true) (s x : Operand) (t u : TypeId) (ho : op.op = .call { callee := .builtin .append, args := #[s, x], argTypes := #[t, u] })
    (vs vx v' : Value) (hs : a.eval s = vs) (hx : a.eval x = vx) (hr : (Builtin.append_ #[t, u] op.type #[vs, vx]).run P w = .ok v' w')
    (h : wpList P ops Q rest (a.put op.dst v') w') : wpList P ops Q (op :: rest) a w := by
  refine wpList_step fun K hK => ?_
  rw [if_pos hgd]
  unfold Oper.wp execOp
  simp only [ho, resolve, invoke, builtin, Sem.run_bind, Sem.run_pure, Result.andThen_ok, List.map_toArray, List.map_cons, List.map_nil, hs, hx, hr]
  exact hK _ _ h
/-- The signature grown by a zero. -/
theorem known_app (wK wN : World) (so : Option Addr) (sc : Nat) (SG : List Nat) (base : Nat) (hO : Ow wK base so sc SG) (hl : SG.length = 264) (hb : ∀ v ∈ SG, v < 256) (hf : Fr (fun _ => False) wK wN) (hbs : base ≤ wK.heap.size) (C : Array Value) :
    ∃ ao cp w', (Builtin.append_ #[24, 24] 24 #[.slice so 264 sc, .slice (some ⟨wN.heap.size + 1, 0, none⟩) 1 1]).run Tryd.prog ((wN.alloc (.cells C 5 (3, 4))).alloc (.cells #[.int .u8 0] 5)) = .ok (.slice ao 265 cp) w' ∧ Sl w' (.slice ao 265 cp) (SG ++ [0]) ∧ Fr (fun k => (Value.slice so 264 sc).ownBlock = some k) ((wN.alloc (.cells C 5 (3, 4))).alloc (.cells #[.int .u8 0] 5)) w' := by
  obtain ⟨W, hW⟩ : ∃ W, wN.alloc (.cells C 5 (3, 4)) = W := ⟨_, rfl⟩
  have hsz : W.heap.size = wN.heap.size + 1 := by rw [← hW]; simp
  have hfW : Fr (fun _ => False) wK W := by rw [← hW]; exact hf.alloc _
  have hO2 : Ow (W.alloc (.cells #[.int .u8 0] 5)) base so sc SG := hO.fr0 (hfW.alloc _)
  have hO3 := hO2
  unfold Ow at hO3
  rw [hl] at hO3
  obtain ⟨ao, cp, w', hr, hown, hgrow, _⟩ := run_app_sl (W.alloc (.cells #[.int .u8 0] 5)) 24 base 264 (.slice so 264 sc) (.slice (some ⟨W.heap.size, 0, none⟩) 1 1) _ [0] hO3 (lit_src W [0] #[.int .u8 0] 1 1 rfl rfl) (by decide) (by have := hfW.size; simp; omega)
  rw [hW, ← hsz]
  refine ⟨ao, cp, w', hr, ?_, (Fr.refl _ _).grown hgrow (fun g hg => .inl hg)⟩
  have hb2 : ∀ v ∈ SG ++ [0], v < 256 := fun v hv => (List.mem_append.1 hv).elim (hb v) (fun h => by rw [List.mem_singleton.1 h]; decide)
  have hl2 : (SG ++ [0]).length = 265 := by rw [List.length_append, hl]; rfl
  have how : Ow w' base ao cp (SG ++ [0]) := by
    unfold Ow
    rw [hl2, cellsOf_append]
    exact hown
  have hcap : (265 : Nat) ≤ cp := by
    rcases how.2 with ⟨_, e2⟩ | ⟨g, cap, cur, e, _, _, h3, _⟩
    · omega
    · simp only [Value.slice.injEq] at e
      rw [e.2.2, ← hl2]; exact h3
  have hsrc := how.src
  rw [hl2] at hsrc
  refine ⟨hsrc, fun _ _ _ e => by cases e; exact hcap, .inr (fun g o n c e => ?_), hb2⟩
  cases e
  exact (World.ownsRow.lt how g (by rw [hl2]; rfl)).2
set_option maxRecDepth 100000 in
set_option maxHeartbeats 4000000 in
/-- LamportKnown. -/
theorem lknown_any (w : World) (hg : GS w) (ht : GT w) : Calls Tryd.prog 3 #[] w fun e w' => e = .returned (.bool true) ∧ Fr (fun _ => False) w w' := by
  have hcv := fun (w : World) (C : Array Value) (n c : Nat) => Lib.run_convert_bytes_const (P := Tryd.prog) w 24 5 C n c Tryd.underlying24 Tryd.underlying5
  have hcd : ∀ (w : World) (C : Array Value) (n c : Nat), (convert 24 24 (.slice (some ⟨w.heap.size, 0, none⟩) n c)).run Tryd.prog (w.alloc (.cells C 5)).drew = .ok (.slice (some ⟨w.heap.size, 0, none⟩) n c) (w.alloc (.cells C 5 (C.size, C.size + 1))).drew := fun w C n c => hcv w.drew C n c
  have HC := hide k5
  generalize sig 4 2 3 [1, 2, 3] (sm ((4 : Nat) : Int) [97, 98, 99]) = SG at *
  generalize mth ((4 : Nat) : Int) (lvs 4 [1, 2, 3] 4) = PB at *
  have HG := hide (And.intro hg ht)
  clear hg ht
  go_enter Tryd.func3, Tryd.ntmps3
  go_wp2_with fail
  refine (lives5_any _ (unhide HG).1 (unhide HG).2).mono ?_
  rintro e w1 ⟨rfl, hF1⟩
  have H1 := hide hF1
  clear hF1
  go_wp2_with fail
  refine ((unhide HC).z1 _).mono ?_
  rintro e w2 ⟨rfl, rfl⟩
  go_wp2_with fail
  refine ((unhide HC).z2 _).mono ?_
  rintro e w3 ⟨rfl, rfl⟩
  go_wp2_with fail
  refine ((unhide HC).z3 _).mono ?_
  rintro e w4 ⟨rfl, rfl⟩
  go_wp2_with fail
  refine ((unhide HC).z4 _).mono ?_
  rintro e w5 ⟨rfl, rfl⟩
  go_wp2_with fail
  refine ((unhide HC).s1 _).mono ?_
  rintro e w6 ⟨rfl, rfl⟩
  go_wp2_with fail
  refine ((unhide HC).s2 _).mono ?_
  rintro e w7 ⟨rfl, rfl⟩
  go_wp2_with fail
  refine ((unhide HC).s3 _).mono ?_
  rintro e w8 ⟨rfl, rfl⟩
  go_wp2_with fail
  refine ((unhide HC).s4 _ ((unhide HG).1.fr0 (unhide H1))).mono ?_
  rintro e w9 ⟨yo, rfl, hF9⟩
  have H9 := hide ((unhide H1).trans hF9 (fun _ _ h => h))
  clear hF9 H1
  go_wp2_with fail
  refine ((unhide HC).n1 _).mono ?_
  rintro e wA ⟨rfl, rfl⟩
  go_wp2_with fail
  refine ((unhide HC).n2 _).mono ?_
  rintro e wB ⟨rfl, rfl⟩
  go_wp2_with fail
  refine ((unhide HC).n3 _ _ ((unhide HG).1.fr0 ((unhide H9).alloc _)) ((unhide HG).2.fr0 ((unhide H9).alloc _)) (sl_lit _ [5] _ _ _ _ rfl rfl (by decide))).mono ?_
  rintro e wD ⟨cb, rfl, hKD, hFD⟩
  have HD := hide (And.intro hKD (((unhide H9).alloc _).trans hFD (fun _ _ h => h)))
  clear hKD hFD H9
  go_wp2_with fail
  refine ((unhide HC).len _ _ (unhide HD).1).mono ?_
  rintro e wE ⟨rfl, rfl⟩
  go_wp2_with fail
  refine ((unhide HC).leaf _ _ (unhide HD).1).mono ?_
  rintro e wF ⟨rfl, rfl⟩
  go_wp2_with fail
  refine ((unhide HC).n4 _ _ ((unhide HG).1.fr0 ((unhide HD).2.alloc _)) ((unhide HG).2.fr0 ((unhide HD).2.alloc _)) (sl_lit _ [1, 2, 3] _ _ _ _ rfl rfl (by decide))).mono ?_
  rintro e wH ⟨kb, rfl, hKH, hFH⟩
  have HWH := hide (((unhide HD).2.alloc _).trans hFH (fun _ _ h => h)).size
  have HH := hide (And.intro hKH (((unhide HD).2.alloc _).trans hFH (fun _ _ h => h)))
  clear hKH hFH HD
  go_wp2_with fail
  refine ((unhide HC).sign _ _ _ ((unhide HC).f4 _ _ _ (unhide HH).1 ((Fr.refl _ _).alloc _)) (sl_lit _ [97, 98, 99] _ _ _ _ rfl rfl (by decide))).mono ?_
  rintro e wI ⟨so, sc, rfl, hOI⟩
  have hFa := ((Fr.refl _ wH).alloc _).trans hOI.fr (fun _ _ h => h)
  have HI := hide (And.intro ((unhide HC).f4 _ _ _ (unhide HH).1 hFa) (And.intro ((unhide HH).2.trans hFa (fun _ _ h => h)) hOI))
  clear hOI hFa HH
  go_wp2_with fail
  refine ((unhide HC).z5 _).mono ?_
  rintro e wJ ⟨rfl, rfl⟩
  go_wp2_with fail
  refine ((unhide HC).pub _ _ (unhide HI).1).mono ?_
  rintro e wK ⟨po, pc, rfl, hOK⟩
  have hsg : ∀ g, (Value.slice so 264 sc).ownBlock = some g → wH.heap.size < g ∧ g < wJ.heap.size := fun g hg => by
    have h1 := World.ownsRow.lt (unhide HI).2.2.own g (by rw [(unhide HC).slen]; exact hg)
    simp at h1
    omega
  have hpg : ∀ g o n c, (Value.slice po 4 pc) = .slice (some ⟨g, o, none⟩) n c → wJ.heap.size ≤ g ∧ g < wK.heap.size := fun g o n c e => by
    cases e
    exact World.ownsRow.lt hOK.own g rfl
  have hso : Ow wK (wH.alloc (.cells (cellsOf [97, 98, 99]).toArray 5 (3, 4))).heap.size so sc SG := (unhide HI).2.2.ow.fr0 hOK.fr
  have hwH : w.heap.size ≤ wH.heap.size := unhide HWH
  have HK := hide (And.intro ((unhide HI).2.1.trans hOK.fr (fun _ _ h => h)) (And.intro (hOK.sl2 (unhide HC).pbyt (unhide HC).plen) (And.intro hso (And.intro (((unhide HI).2.2.sl2 (unhide HC).sbyt (unhide HC).slen).fr0 hOK.fr) (And.intro hsg (And.intro hpg (And.intro hwH (And.intro hOK.fr.size (unhide HI).2.2.fr.size))))))))
  clear hOK hsg hpg hso hwH HI
  go_wp2_with fail
  refine ((unhide HC).c1 _ _ _ _ ((unhide HG).1.fr0 ((unhide HK).1.alloc _)) ((unhide HK).2.1.fr0 ((Fr.refl _ _).alloc _)) (sl_lit _ [97, 98, 99] _ _ _ _ rfl rfl (by decide)) ((unhide HK).2.2.2.1.fr0 ((Fr.refl _ _).alloc _))).mono ?_
  rintro e wL ⟨rfl, hFL⟩
  have HL := hide (((Fr.refl _ _).alloc _).trans hFL (fun _ _ h => h))
  clear hFL
  go_wp2_with fail
  refine ((unhide HC).c2 _ _ _ _ ((unhide HG).1.fr0 (((unhide HK).1.trans (unhide HL) (fun _ _ h => h)).alloc _)) ((unhide HK).2.1.fr0 ((unhide HL).alloc _)) (sl_lit _ [97, 98, 99] _ _ _ _ rfl rfl (by decide)) ((unhide HK).2.2.2.1.fr0 ((unhide HL).alloc _))).mono ?_
  rintro e wM ⟨rfl, hFM⟩
  have HM := hide (((unhide HL).alloc _).trans hFM (fun _ _ h => h))
  clear hFM HL
  go_wp2_with fail
  refine ((unhide HC).c3 _ _ _ _ ((unhide HG).1.fr0 (((unhide HK).1.trans (unhide HM) (fun _ _ h => h)).alloc _)) ((unhide HK).2.1.fr0 ((unhide HM).alloc _)) (sl_lit _ [97, 98, 100] _ _ _ _ rfl rfl (by decide)) ((unhide HK).2.2.2.1.fr0 ((unhide HM).alloc _))).mono ?_
  rintro e wN ⟨rfl, hFN⟩
  have HN := hide (((unhide HM).alloc _).trans hFN (fun _ _ h => h))
  clear hFN HM
  obtain ⟨ao, cp, wO, hrO, hsO, hfO⟩ := known_app wK wN so sc SG _ (unhide HK).2.2.1 (unhide HC).slen (unhide HC).sbyt (unhide HN) (Nat.le_trans (unhide HK).2.2.2.2.2.2.2.2 (unhide HK).2.2.2.2.2.2.2.1) #[.int .u8 97, .int .u8 98, .int .u8 99]
  have hf2 : Fr (fun _ => False) wK ((wN.alloc (.cells #[.int .u8 97, .int .u8 98, .int .u8 99] 5 (3, 4))).alloc (.cells #[.int .u8 0] 5)) := ((unhide HN).alloc _).alloc _
  have hsN : wK.heap.size ≤ wN.heap.size := (unhide HN).size
  have hpO : Sl wO (.slice po 4 pc) PB := ((unhide HK).2.1.fr0 hf2).frD hfO (.inr (fun g o n c e hS => by
    have h1 := ((unhide HK).2.2.2.2.2.1 g o n c e).1
    have h2 := ((unhide HK).2.2.2.2.1 g hS).2
    omega))
  have hmO : Sl wO (.slice (some ⟨wN.heap.size, 0, none⟩) 3 3) [97, 98, 99] := ((sl_lit wN [97, 98, 99] #[.int .u8 97, .int .u8 98, .int .u8 99] 5 (3, 4) 3 rfl rfl (by decide)).fr0 ((Fr.refl _ _).alloc _)).frD hfO (.inr (fun g o n c e hS => by
    cases e
    have h2 := ((unhide HK).2.2.2.2.1 _ hS).2
    have h3 := (unhide HK).2.2.2.2.2.2.2.1
    omega))
  have hwO : Fr (fun _ => False) w wO := ((unhide HK).1.trans hf2 (fun _ _ h => h)).trans hfO (fun k hk hS => by
    have h2 := ((unhide HK).2.2.2.2.1 k hS).1
    have h3 := (unhide HK).2.2.2.2.2.2.1
    omega)
  have HRO := hide hrO
  have HO := hide (And.intro hpO (And.intro hmO (And.intro hsO hwO)))
  clear hrO hsO hfO hf2 hsN hpO hmO hwO
  go_wp2_with (at_builtin; refine wpList_appG rfl _ _ 24 24 rfl _ _ _ rfl rfl (unhide HRO) ?_)
  refine ((unhide HC).c4 _ _ _ _ ((unhide HG).1.fr0 (unhide HO).2.2.2) (unhide HO).1 (unhide HO).2.1 (unhide HO).2.2.1).mono ?_
  rintro e wP ⟨rfl, hFP⟩
  have HP := hide ((unhide HO).2.2.2.trans hFP (fun _ _ h => h))
  clear hFP
  go_wp2_with fail
  go_ret
  exact ⟨rfl, unhide HP⟩
end Go.Proofs.YtjokmlnghpnlbaaDoor

namespace Go.Proofs.YtjokmlnghpnlbaaDoor
open Go.ChangeShapes Go.WideShapes Go.ChangeAt Go.RowKit
set_option maxRecDepth 100000

theorem lknown_contract (H : Type) (enc : TypeId × Value → H) (W : World) (args : Array Value) (ds gs : List (DataW H)) (before : List MemPlace)
    (hW : DataW.Whole enc Tryd.prog Tryd.f3.params.toList Rows.lamportKnownSpec.vars false W args.toList ds gs before) (hL : laidMetH Tryd.prog Rows.lamportKnownRow.laid W) (hsh : W.ShapedOpen Tryd.prog) :
    Calls Tryd.prog 3 args W fun e W' => ∃ v, e = .returned v ∧ Rows.lamportKnownSpec.post enc Tryd.prog Tryd.f3 false true false false W args v W' := by
  have hW' := hW
  obtain ⟨p, q, hA0, hV, rfl, hfz, hnd⟩ := hW
  have hA : DataW.TrodAll enc Tryd.prog W 0 (fun _ => true) true Tryd.f3.params.toList args.toList ds p := hA0
  rw [Tryd.params3] at hA
  obtain ⟨hargs, rfl, rfl⟩ := trodAll_nil hA
  obtain rfl : args = #[] := by cases args; simp_all
  obtain ⟨rfl, rfl⟩ := trodVars_none hV
  have hL2 : laidMet Tryd.prog [("math/bits.deBruijn32tab", Rows.laid_math_bits_deBruijn32tab), ("math/bits.deBruijn64tab", Rows.laid_math_bits_deBruijn64tab), ("almoner/sha.start", Rows.laid_almoner_sha_start), ("almoner/sha.k", Rows.laid_almoner_sha_k)] W := hL
  have hg := gs_of_laid hL2 (.tail _ (.tail _ (.head _))) (.tail _ (.tail _ (.tail _ (.head _)))) (heap_enough hsh)
  have ht := gt_of_laid hL2 (.tail _ (.head _)) (heap_enough hsh)
  refine (lknown_any W hg ht).mono fun e W' ⟨he, hf⟩ => ?_
  subst he
  have hb := hf.below
  refine ⟨_, rfl, _, _, _, [], [], [], hW', ?_, ?_, ?_, hb.frame _, fun h => by cases h⟩
  · exact trodAll_cons_mk (shut_bool Tryd.underlying4 true) trodAll_mk0
  · exact trodAll_mk0
  · rfl

theorem lknown_laid_met (os : Os) : laidMetH Tryd.prog Rows.lamportKnownRow.laid ((mWorld os).forCall (fun _ _ => 0) ⟨#[], #[], []⟩).memory :=
  laidMetH_of_parts (laidMet_of_run' 8 (by kernel_rfl) (by kernel_rfl)) (by kernel_rfl)
theorem lknown_reads (os : Os) {H : Type} (enc : TypeId × Value → H) : ∃ places, DataW.whole enc Tryd.prog ((mWorld os).forCall (fun _ _ => 0) ⟨#[], #[], []⟩).memory Tryd.f3.params.toList Rows.lamportKnownSpec.vars false (#[] : Array Value).toList 8 = some ([], [], places) :=
  ⟨[], by kernel_rfl⟩

theorem lknown_lifted (os : Os) (started : os.Started) (H : Type) (enc : TypeId × Value → H) (F : Stop.Interp) :
    ReturnsInHanded {} Tryd.checked os 3 .any ((OpenSpec.ofChange Rows.lamportKnownSpec).preRow enc Tryd.prog Tryd.f3 Rows.lamportKnownRow.domain false Rows.lamportKnownRow.laid) (((OpenSpec.ofChange Rows.lamportKnownSpec).at F).post enc Tryd.prog Tryd.f3 false true false false) := by
  obtain ⟨places, hx⟩ := lknown_reads os enc
  refine returnsInHanded_of_row (C := Tryd.checked) (s := OpenSpec.ofChange Rows.lamportKnownSpec) Tryd.ownKnob started (by kernel_rfl) Tryd.func3
    (witness_row_atRef (enc := enc) (C := Tryd.checked) false (mWorld os) #[] rfl (by kernel_rfl) (by kernel_rfl) (by kernel_rfl)
      (OpenSpec.preRow_of_cond 8 hx (by kernel_rfl) (fun k hk => by cases hk) (by kernel_rfl) (lknown_laid_met os))) ?_
  intro W base args ds gs before _ hW _ _ _ hL hsh _
  exact lknown_contract H enc W args ds gs before hW hL hsh

theorem lknown_said : Rows.LamportKnownSaid :=
  OpenClaim.holds_of_cond 3 Tryd.f3 rfl rfl rfl rfl rfl rfl rfl ⟨rfl, rfl, rfl, rfl, rfl⟩ rfl rfl rfl rfl rfl (by kernel_rfl) Tryd.func3 (by kernel_rfl)
    (of_decide_eq_true (by kernel_rfl)) (by unfold Func.isWrapper; first | (rw [if_pos (by decide +kernel)]; kernel_rfl) | (rw [if_neg (by decide +kernel)]; exact ⟨rfl, rfl⟩))
    (fun os started H enc _ F => by rw [OpenClaim.pre_eq_preRow]; exact lknown_lifted os started H enc F)

theorem lknown_plain (f : FuncId) (fn : Func) (hf : Tryd.pinned.checked.prog.funcNamed Rows.lamportKnownRow.func = some f) (hfn : Tryd.pinned.checked.prog.funcs[f]? = some fn) :
    false = Tryd.pinned.checked.prog.looks [] ∧ ∀ (j : Nat) t, fn.params[j]? = some t → Tryd.pinned.checked.prog.wantsStandIn t = false := by
  obtain rfl : f = 3 := Option.some.inj ((show Tryd.prog.funcNamed Rows.lamportKnownRow.func = some 3 by kernel_rfl).symm.trans hf) |>.symm
  obtain rfl : fn = Tryd.f3 := (Option.some.inj (Tryd.func3.symm.trans hfn)).symm
  refine ⟨by kernel_rfl, fun j t ht => ?_⟩
  rw [Tryd.params3] at ht
  simp at ht

/-- THE FIRST FORM's CARD. -/
theorem lknown_card : Rows.LamportKnownCardSaid :=
  Claim7.holds_tied_plain_at .later [] _ _ _ _ lknown_said (fun _ h => by cases h) (by kernel_rfl) (fun _ h => by cases h) lamportKnown_row_tie rfl ⟨rfl, rfl⟩ (by kernel_rfl) rfl lknown_plain (by kernel_rfl)
#print axioms lknown_card
end Go.Proofs.YtjokmlnghpnlbaaDoor

