import Derived.Test.YtfoifojlgojgaabDoorDky
namespace Go.Proofs.YtfoifojlgojgaabDoor
open Go.RowKit Go.ChangeShapes Go.WideShapes Go.Maps Go.Sort

/-- How long a file is, by its key. -/
def DM.ln (s : DM) : Lit → Int
  | .string x => ((s.F x).b.length : Int)
  | _ => 0
/-- A file behind a crash: what was safe. -/
def FM.crash (f : FM) : FM := ⟨f.b.take f.safe, (f.b.take f.safe).length, []⟩
theorem FM.crash_cut (f : FM) : (f.cut f.safe).synced = f.crash := rfl
theorem sumA_sub (f g : Lit → Int) : ∀ l : List (Lit × DataW Unit), sumA (fun k => f k - g k) l = sumA f l - sumA g l
  | [] => rfl
  | p :: r => by simp only [sumA, sumA_sub f g r]; omega
theorem sumA_pos (g : Lit → Int) : ∀ l : List (Lit × DataW Unit), (∀ p ∈ l, 0 ≤ g p.1) → 0 ≤ sumA g l
  | [], _ => Int.le_refl _
  | p :: r, h => by
    have h1 := h p (List.mem_cons_self ..)
    have h2 := sumA_pos g r (fun x hx => h x (List.mem_cons_of_mem _ hx))
    simp only [sumA]
    omega
theorem sumA_ge (g : Lit → Int) : ∀ (l : List (Lit × DataW Unit)) (p : Lit × DataW Unit), p ∈ l → (∀ p ∈ l, 0 ≤ g p.1) → g p.1 ≤ sumA g l
  | [], _, h, _ => by cases h
  | x :: r, p, hp, h => by
    have h1 := h x (List.mem_cons_self ..)
    have h2 := sumA_pos g r (fun x hx => h x (List.mem_cons_of_mem _ hx))
    simp only [sumA]
    rcases List.mem_cons.1 hp with rfl | hp
    · omega
    · have := sumA_ge g r p hp (fun x hx => h x (List.mem_cons_of_mem _ hx))
      omega
theorem sumL_le (g : Lit → Int) (left : Lit → Bool) : ∀ l : List (Lit × DataW Unit), (∀ p ∈ l, 0 ≤ g p.1) → sumL g left l ≤ sumA g l
  | [], _ => Int.le_refl _
  | p :: r, h => by
    have h1 := h p (List.mem_cons_self ..)
    have h2 := sumL_le g left r (fun x hx => h x (List.mem_cons_of_mem _ hx))
    simp only [sumL, sumA]
    split <;> omega
theorem sync_step {w w' : World} {d m : Nat} {s : DM} {q : DW} {O : Nat → Prop} (hD : DkAt w d m s q O) (x : List UInt8) (hx : Maps.has s.D (.string x) = true) (hA : FAt w' (q.fb x) (s.F x).synced (q.bv x) (.slice none 0 0)) (hf : Fr (fun g => g = q.fb x) w w') : ∃ q2 : DW, q2.fb = q.fb ∧ DkAt w' d m { s with F := fun k => if k = x then (s.F x).synced else s.F k } q2 O := by
  refine ⟨_, ?_, (hD.file x hx (s.F x).synced (q.bv x) (.slice none 0 0) (hf.mono (fun _ _ h => .inl h)) hA (fun g hg => .inl hg) (fun g hg => by cases hg)).reO (fun k hk => ?_) (fun k hk => Nat.lt_of_lt_of_le (hD.lt k hk) hf.size)⟩
  · rfl
  · rcases hk with hk | hk | hk
    · exact hk
    · exact (hD.own x hx).2.1 k hk
    · cases hk
def DM.offd (s : DM) : DM := { s with off := true, left := 0, tear := 0 }
/-- A disk within a crash: so far the files that are not left. -/
def DM.mid (t : DM) (z : Nat) (left : Lit → Bool) : DM := { t with used := z, F := fun k => if left (.string k) then t.F k else (t.F k).crash }
/-- A disk behind a crash. -/
def DM.crashT (t : DM) : DM := { t with used := ((t.used : Int) - sumA t.pd (ents t.D)).toNat, F := fun k => (t.F k).crash }
end Go.Proofs.YtfoifojlgojgaabDoor
