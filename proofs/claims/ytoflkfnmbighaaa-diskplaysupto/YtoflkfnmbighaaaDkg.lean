import Derived.Test.YtoflkfnmbighaaaDkf
import Derived.Deep.RegionHeldLaw
namespace Go.Proofs.Ytoflkfnmbighaaa
open Go.RowKit Go.ChangeShapes Go.WideShapes Go.Maps Go.Sort

/-- A file that was not there, empty. -/
def DM.made (s : DM) (x : List UInt8) (fb : Nat) : DM := { s with D := s.D.put (.string x) (.lit (.int .i64 (fb : Nat))), F := fun k => if k = x then ⟨[], 0, []⟩ else s.F k }
theorem lit_ne {x y : List UInt8} (h : x ≠ y) : (Lit.string x) ≠ (Lit.string y) := fun e => h (by injection e)
/-- A file put into the map. -/
theorem create_put {d m : Nat} {s : DM} {q : DW} {O : Nat → Prop} {name : ByteArray} {w : World} (h : DkAt w d m s q O) (hnm : name.size ≤ maxLen) (hh : Maps.has s.D (.string (nm name)) = false) (hs : Maps.size s.D < 256) (W : World) (hW : Fr (fun _ => False) w W) (fb : Nat)
    (hfb : W.heap[fb]? = some (.cells #[.slice none 0 0, .int .i64 0, .slice none 0 0] 72)) (hnew : w.heap.size ≤ fb) :
    ∃ W', (Instr.mapUpdate 46 (.map (some m)) (.string name) (.pointer (some ⟨fb, 0, none⟩))).run Try.prog W = .ok () W' ∧ ∃ q' O', DkAt W' d m (s.made (nm name) fb) q' O' ∧ Fr O w W' ∧ ∀ k, O' k → O k ∨ w.heap.size ≤ k := by
  have hD := h.fr hW (fun _ _ h => h)
  obtain ⟨W', hr, hown, hg⟩ := hD.map.update Try.sK (t := 46) Try.underlying46 (by simp only [maxLen]; omega) (key_nm name hnm) (Rp_at fb)
  obtain ⟨es, hes, hpw, hkl⟩ := hD.map.entries Try.sK
  have hT : Maps.Tidy s.D := ⟨es, hes, hpw⟩
  have hIM : Maps.IsMap s.D := ⟨es, hes⟩
  have hKL : WideAt.IsKeyLit (.string (nm name)) := (Try.sK).key (key_nm name hnm)
  have hsz : Maps.size (s.D.put (.string (nm name)) (.lit (.int .i64 (fb : Nat)))) = Maps.size s.D + 1 := by rw [Maps.size_put hT, hh]; rfl
  obtain ⟨mes, mcl, hmb⟩ := ownsMap_blk hD.map
  have hfr : Fr (fun k => k = m) W W' := (Fr.refl _ _).grown hg (fun k hk => by cases hk; exact .inl rfl)
  have kp : ∀ k, k ≠ m → k < W.heap.size → W'.heap[k]? = W.heap[k]? := fun k hk hl => hfr.block k hl hk
  have hfblt := lt_of_block hfb
  refine ⟨W', hr, { fb := fun k => if k = nm name then fb else q.fb k, bv := fun k => if k = nm name then .slice none 0 0 else q.bv k, pv := fun k => if k = nm name then .slice none 0 0 else q.pv k }, fun k => O k ∨ k = fb, ⟨?_, ?_, fun k hk => ?_, fun k hk => ?_, fun k k' hk hk' hne => ?_, .inl h.od, .inl h.om, ?_⟩, ?_, ?_⟩
  · exact (kp d (fun e => by have := hD.blk; rw [e, hmb] at this; cases this) (hD.lt d h.od)).trans hD.blk
  · show W'.ownsMap _ _ _ _ (Maps.size (s.D.put _ _)) (s.D.put _ _)
    rw [hsz]
    exact hown
  · by_cases e : k = nm name
    · subst e
      simp only [DM.made, if_pos]
      refine ⟨Maps.atKey_put_same hIM hKL _ _, ⟨(kp fb (fun e => by rw [e, hmb] at hfb; cases hfb) hfblt).trans hfb, World.ownsRow_nil _ _ _ _, World.ownsRow_nil _ _ _ _⟩⟩
    · have hk0 : Maps.has s.D (.string k) = true := by rw [← Maps.has_put_other (lit_ne e)]; exact hk
      simp only [DM.made, if_neg e]
      obtain ⟨h1, h2⟩ := hD.at_ k hk0
      refine ⟨(Maps.atKey_put_other (lit_ne e) _ _).trans h1, h2.keep (kp _ (fun e2 => ?_) h2.lt.1) (fun g hg2 => kp g (fun e2 => ?_) (h2.lt.2.1 g hg2)) (fun g hg2 => kp g (fun e2 => ?_) (h2.lt.2.2 g hg2))⟩
      · have := h2.blk; rw [e2, hmb] at this; cases this
      · obtain ⟨cur, hc⟩ := own_blk h2.bo hg2; rw [e2, hmb] at hc; cases hc
      · obtain ⟨cur, hc⟩ := own_blk h2.po hg2; rw [e2, hmb] at hc; cases hc
  · by_cases e : k = nm name
    · simp only [if_pos e]
      exact ⟨.inr (by first | rfl | trivial), fun g hg2 => (by cases hg2), fun g hg2 => (by cases hg2)⟩
    · have hk0 : Maps.has s.D (.string k) = true := by rw [← Maps.has_put_other (lit_ne e)]; exact hk
      simp only [if_neg e]
      exact ⟨.inl (h.own k hk0).1, fun g hg2 => .inl ((h.own k hk0).2.1 g hg2), fun g hg2 => .inl ((h.own k hk0).2.2 g hg2)⟩
  · by_cases e : k = nm name
    · have e' : k' ≠ nm name := fun e2 => hne (e.trans e2.symm)
      have hk0 : Maps.has s.D (.string k') = true := by rw [← Maps.has_put_other (lit_ne e')]; exact hk'
      simp only [if_pos e, if_neg e']
      exact ⟨fun e2 => (by have := h.lt _ (h.own k' hk0).1; omega), fun g hg2 => (by cases hg2), fun g hg2 => (by cases hg2)⟩
    · have hk0 : Maps.has s.D (.string k) = true := by rw [← Maps.has_put_other (lit_ne e)]; exact hk
      by_cases e' : k' = nm name
      · simp only [if_neg e, if_pos e']
        exact ⟨fun e2 => (by have := h.lt _ (h.own k hk0).1; omega), fun g hg2 hg3 => (by cases hg3), fun g hg2 hg3 => (by cases hg3)⟩
      · have hk0' : Maps.has s.D (.string k') = true := by rw [← Maps.has_put_other (lit_ne e')]; exact hk'
        simp only [if_neg e, if_neg e']
        exact h.ap k k' hk0 hk0' hne
  · rintro k (hk | rfl)
    · exact Nat.lt_of_lt_of_le (hD.lt k hk) hfr.size
    · exact Nat.lt_of_lt_of_le hfblt hfr.size
  · exact (hW.mono (fun _ _ h => h.elim)).trans hfr (fun k _ hk => by rw [hk]; exact h.om)
  · rintro k (hk | rfl)
    · exact .inl hk
    · exact .inr hnew
set_option maxRecDepth 100000 in
/-- Create of a name that may be. -/
theorem create_ok (d m : Nat) (s : DM) (q : DW) (O : Nat → Prop) (name : ByteArray) (w : World) (h : DkAt w d m s q O) (ho : s.off = false) (hn0 : 1 ≤ name.size) (hn : name.size ≤ 64) (hh : Maps.has s.D (.string (nm name)) = false) (hs : Maps.size s.D < 256) :
    Calls Try.prog 9 #[.pointer (some ⟨d, 0, none⟩), .string name] w fun e w' => e = .returned (.int .i64 0) ∧ ∃ fb q' O', DkAt w' d m (s.made (nm name) fb) q' O' ∧ Fr O w w' ∧ ∀ k, O' k → O k ∨ w.heap.size ≤ k := by
  have hnm : name.size ≤ maxLen := by simp only [maxLen]; omega
  obtain ⟨c0, c1, c2, c3, c4, c5, c6, c7, fz⟩ := h.cells
  rw [ho] at c4
  clear c0 c2 c3 c5 c6 c7 fz
  have hlook : ∀ W, Fr (fun _ => False) w W → (Instr.lookup 46 (.map (some m)) (.string name) false).run Try.prog W = .ok (.pointer none) W := fun W hW => by
    obtain ⟨v, ps, hr, hv⟩ := (h.fr hW (fun _ _ h => h)).map.lookup Try.sK (t := 46) Try.underlying46 (Try.zeroF W) Rp_nil (key_nm name hnm)
    rw [Maps.atKey_of_not_has hh] at hv
    rcases Rp_inv hv with ⟨rfl, _⟩ | ⟨b, _, hb⟩
    · exact hr
    · cases hb
  have hl0 := hlook w (Fr.refl _ _)
  have hlen := h.map.len (t := 46) Try.underlying46 3
  have HP := hide (fun W hW fb hfb hnew => create_put h hnm hh hs W hW fb hfb hnew)
  have HC1 : Hid (∀ W, Fr (fun _ => False) w W → W.cell? ⟨d, 1, none⟩ = some (.map (some m))) := fun W hW => (hW.cell (p := ⟨d, 1, none⟩) (h.lt d h.od) (fun h => h)).trans c1
  clear h hlook
  go_enter Try.func9, Try.ntmps9
  go_wp2_with fail
  go_region_held_law (fun w' => w'.cell? ⟨d, 1, none⟩ = some (.map (some m)))
    (first | assumption | exact (unhide HC1) _ (Fr.refl _ _).drew | exact (unhide HC1) _ hcc | exact (unhide HC1) _ ((Fr.refl _ _).drew.alloc _) | exact (unhide HC1) _ (hcc.alloc _))
    (first
      | (go_at_call 32; refine (sclone_any name _ (by omega)).mono ?_; rintro e wc ⟨rfl, hc⟩
         first
           | (have hcc : Fr (fun _ => False) w wc := ((Fr.refl _ _).drew.alloc (.cells #[.slice none 0 0, .int .i64 0, .slice none 0 0] 72)).trans hc (fun _ _ h => h)
              obtain ⟨W', hup, hfin⟩ := (unhide HP) wc hcc w.heap.size ((hc.block w.heap.size (by simp) (fun h => h)).trans (heap_alloc_new w.drew _)) (Nat.le_refl _)
              have hcw : W'.cell? ⟨d, 1, none⟩ = some (.map (some m)) := (by obtain ⟨q', O', hD', _⟩ := hfin; exact hD'.cells.2.1)
              have HFIN := hide hfin
              clear hfin)
           | (have hcc : Fr (fun _ => False) w wc := (Fr.refl _ _).drew.trans hc (fun _ _ h => h)
              obtain ⟨W', hup, hfin⟩ := (unhide HP) (wc.alloc (.cells #[.slice none 0 0, .int .i64 0, .slice none 0 0] 72)) (hcc.alloc _) wc.heap.size (heap_alloc_new wc _) hcc.size
              have hcw : W'.cell? ⟨d, 1, none⟩ = some (.map (some m)) := (by obtain ⟨q', O', hD', _⟩ := hfin; exact hD'.cells.2.1)
              have HFIN := hide hfin
              clear hfin)))
  all_goals
    go_wp2_with fail
    go_ret
    exact ⟨rfl, _, unhide HFIN⟩
end Go.Proofs.Ytoflkfnmbighaaa
