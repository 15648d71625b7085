import Derived.Test.YtkiepcdncegniaaZbn
import Derived.ScopeJumps
namespace Go.Proofs.Ytkiepcdncegniaa
open Go.RowKit Go.Maps

theorem jump_mono {l : Nat} {J J' : Act → World → Prop} {Q : Exit → Act → World → Prop} (h : ∀ a w, J a w → J' a w) : ∀ (e : Exit) (a : Act) (w : World), Exit.jump l J Q e a w → Exit.jump l J' Q e a w := fun e a w hj => by
  cases e with
  | goto l => exact ⟨hj.1, h _ _ hj.2⟩
  | _ => exact hj
/-- A scope with one label, come to from ahead. -/
theorem wp_scope1d {P : Program} {a : Act} {w : World} {Q : Exit → Act → World → Prop} {pre X : Code} (l : Nat) (J : Act → World → Prop) (μ : Act → World → Nat) (hf : findLabel (pre.seq ((Code.label l).seq X)) l = some (Code.skip.seq X))
    (first : pre.wp P (Exit.then J (Exit.jump l J Q)) a w) (pass : ∀ a w, J a w → X.wp P (Exit.jump l (fun a' w' => J a' w' ∧ μ a' w' < μ a w) Q) a w) : (Code.scope (pre.seq ((Code.label l).seq X))).wp P Q a w := by
  refine wp_scope_jumps l J μ hf (wp_seq (Code.wp_mono (fun e a w h => ?_) first)) (fun a w h => wp_seq (wp_skip (pass a w h)))
  cases e with
  | normal => exact wp_seq (wp_label (Code.wp_mono (jump_mono (fun _ _ h => h.1)) (pass a w h)))
  | _ => exact h
/-- The cells of messages. -/
def zR : List Value := [.int .u32 0, .int .u32 0, .int .u32 0, .int .u8 0, .int .u32 0, .int .u32 0, .int .u32 0, .int .u32 0, .slice none 0 0, .string ⟨#[]⟩]
def zA : List Value := [.int .u32 0, .int .u32 0, .int .u8 0, .int .u32 0, .int .u32 0, .slice none 0 0, .slice none 0 0]
def zE : List Value := .int .u32 0 :: (zR ++ [.int .u8 0, .slice none 0 0])
def hmsg (r : RQ) : List Value := .int .u8 1 :: (r.cs ++ ([.int .u32 0, .int .u32 0] ++ (zA ++ (.int .u8 0 :: (zE ++ [.int .u32 0])))))
def tmsg (c k : Nat) : List Value := .int .u8 2 :: (zR ++ ([.int .u32 (c : Nat), .int .u32 (k : Nat)] ++ (zA ++ (.int .u8 0 :: (zE ++ [.int .u32 0])))))
theorem hmsg_one (r : RQ) (h : r.fv.oneCell' = true) : ∀ v ∈ hmsg r, v.oneCell' = true := by
  intro v hv
  simp only [hmsg, List.mem_cons, List.mem_append] at hv
  rcases hv with rfl | hv | hv | hv | rfl | hv | rfl | hv
  · rfl
  · exact RQ.one r h v hv
  · rcases hv with rfl | rfl | hv
    · rfl
    · rfl
    · cases hv
  · exact List.all_eq_true.1 (show List.all zA (fun v => v.oneCell') = true from rfl) v hv
  · rfl
  · exact List.all_eq_true.1 (show List.all zE (fun v => v.oneCell') = true from rfl) v hv
  · rfl
  · cases hv
theorem tmsg_one (c k : Nat) : ∀ v ∈ tmsg c k, v.oneCell' = true := List.all_eq_true.1 (show List.all (tmsg c k) (fun v => v.oneCell') = true from rfl)
theorem Try.infoMs : (Try.prog.info? 49).map (fun i => (i.zero, i.size, i.bytes)) = some (some (.agg (.int .u8 0 :: (zR ++ ([.int .u32 0, .int .u32 0] ++ (zA ++ (.int .u8 0 :: (zE ++ [.int .u32 0])))))).toArray), 35, 288) := by kernel_rfl
/-- append(l, m) of messages. -/
theorem app_ms (w : World) (base n : Nat) (v : Value) (xs m : List Value) (hm : m.length = 35) (h1 : ∀ u ∈ m, u.oneCell' = true) (h : w.ownsRow base 49 35 v n xs) (hb : base ≤ w.heap.size) (hl : n ≤ 100000) :
    ∃ ao cap w', (Builtin.append_ #[39, 39] 39 #[v, .slice (some ⟨w.heap.size, 0, none⟩) 1 1]).run Try.prog (w.alloc (.cells m.toArray 49)) = .ok (.slice ao (n + 1) cap) w' ∧ w'.ownsRow base 49 35 (.slice ao (n + 1) cap) (n + 1) (xs ++ m) ∧ Fr (fun g => v.ownBlock = some g) w w' ∧
      ∀ g, (Value.slice ao (n + 1) cap).ownBlock = some g → v.ownBlock = some g ∨ w.heap.size ≤ g := by
  obtain ⟨i0, hi, hz0, hz1, hz2⟩ := info_parts Try.infoMs
  have hb' := ownsRow_of_block (w' := w.alloc (.cells m.toArray 49)) h (fun g hg => Below.heap_alloc _ _ _ (h.lt g hg).2)
  obtain ⟨v', w', hr, h2, h3, _, h5⟩ := run_append_own_at (P := Try.prog) (w := w.alloc (.cells m.toArray 49)) base 39 39 49 i0 _ 35 288 Try.underlying39 hi hz0 hz1 hz2 rfl (by decide) v n xs hb' ⟨w.heap.size, 0, none⟩ 1 1 m hm (fun j u hu => by
    rw [addr_add, World.cell?_alloc_at _ _ _ _ rfl]; simpa using hu) h1 (by simp only [maxLen]; omega) (by omega) (by simp; omega)
  obtain ⟨ao, cap, rfl⟩ := own_formX h2
  refine ⟨ao, cap, w', hr, h2, ((box1 w _).mono (fun _ _ h => h.elim)).grown h3 (fun g hg => .inl hg), fun g hg => ?_⟩
  rcases h5 with e | e
  · rw [e] at hg; exact .inl hg
  · rw [e] at hg; cases hg; exact .inr (by simp)
end Go.Proofs.Ytkiepcdncegniaa
