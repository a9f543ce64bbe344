import PyProof.Rows.All
import HandS.ForMost
import HandS.Exc
import HandS.TryOnly
import HandS.ExcOwn
import HandS.ExcInit
import HandS.ExcField
import HandS.ExcIs
import HandS.WordsExc
import HandS.Wide
import KE.KExcIs
import PyProof.ReprRoads
import HandS.FStr
import HandS.StrMore
import HandS.Steps
import HandS.IsInst
import HandS.Text
import HandS.Gcd
import HandS.Style
import KE.KMathG
import KE.KMathGC
import KE.SortData
import KE.DataCmp
import KE.DataMinMax
import HandS.SortInts
import HandS.Iter
import PyProof.ZipIter
import Wide.All
import OpenK.AllK
import Wide.FinOn
import PySem.Challenge.RW_trunkweb_k65_bounds_under_fixings
import KE.BitLaws
set_option Elab.async false
set_option linter.all false
set_option maxRecDepth 100000
set_option maxHeartbeats 2000000
/-! Z: what a reading comes to, with the heap parted: G what stays, L the cells that are owned. -/
namespace Z
open PySem PySem.Spec PyProof.Rows L2

theorem perm_swap {α : Type} (a b c : List α) : (a ++ (b ++ c)).Perm (b ++ (a ++ c)) := by
  have h : ((a ++ b) ++ c).Perm ((b ++ a) ++ c) := (List.perm_append_comm).append_right c
  rw [List.append_assoc, List.append_assoc] at h
  exact h
abbrev Cell := Addr × HO
/-- H is G with the owned cells L beside -/
structure Lay (G : Hp) (L : List Cell) (H : Hp) : Prop where
  off : ∀ b, (∀ c ∈ L, c.1 ≠ b) → H b = G b
  on : ∀ c ∈ L, H c.1 = some c.2 ∧ G c.1 = none
  nd : (L.map (·.1)).Nodup
theorem Lay.same {G H : Hp} {L : List Cell} (l : Lay G L H) : Same G H := fun b o e => by
  rw [l.off b fun c hc z => ?_]
  · exact e
  · have := (l.on c hc).2
    rw [z, e] at this
    cases this
theorem Lay.fresh {G H : Hp} {L : List Cell} {p : Addr} (l : Lay G L H) (h : H p = none) : ∀ c ∈ L, c.1 ≠ p := fun c hc z => by
  have := (l.on c hc).1
  rw [z, h] at this
  cases this
theorem Lay.freshG {G H : Hp} {L : List Cell} {p : Addr} (l : Lay G L H) (h : H p = none) : G p = none := by
  rw [← l.off p (l.fresh h)]
  exact h
theorem Lay.perm {G H : Hp} {L L' : List Cell} (l : Lay G L H) (q : L.Perm L') : Lay G L' H :=
  ⟨fun b hb => l.off b fun c hc => hb c (q.mem_iff.mp hc), fun c hc => l.on c (q.mem_iff.mpr hc), (q.map _).nodup_iff.mp l.nd⟩
theorem Lay.nil {H : Hp} : Lay H [] H := ⟨fun _ _ => rfl, fun _ h => (by cases h), by simp⟩
theorem Lay.grow {G H : Hp} {L : List Cell} {p : Addr} {o : HO} (l : Lay G L H) (h : H p = none) : Lay (upd G p o) L (upd H p o) := by
  have f := l.fresh h
  refine ⟨fun b hb => ?_, fun c hc => ?_, l.nd⟩
  · by_cases e : b = p
    · rw [e, upd_same, upd_same]
    · rw [upd_ne e, upd_ne e]; exact l.off b hb
  · rw [upd_ne (f c hc), upd_ne (f c hc)]; exact l.on c hc
theorem Lay.cell {G H : Hp} {L : List Cell} {p : Addr} {o : HO} (l : Lay G L H) (h : H p = none) : Lay G ((p, o) :: L) (upd H p o) := by
  have f := l.fresh h
  refine ⟨fun b hb => ?_, fun c hc => ?_, ?_⟩
  · have e : b ≠ p := fun z => hb (p, o) (List.mem_cons_self ..) z.symm
    rw [upd_ne e]
    exact l.off b fun c hc => hb c (List.mem_cons_of_mem _ hc)
  · rcases List.mem_cons.mp hc with z | z
    · subst z; exact ⟨upd_same, l.freshG h⟩
    · rw [upd_ne (f c z)]; exact l.on c z
  · rw [List.map_cons, List.nodup_cons]
    refine ⟨fun z => ?_, l.nd⟩
    obtain ⟨c, hc, e⟩ := List.mem_map.mp z
    exact f c hc e
theorem Lay.ne {G H : Hp} {L : List Cell} {p : Addr} {o : HO} (l : Lay G ((p, o) :: L) H) : ∀ c ∈ L, c.1 ≠ p := fun c hc z => by
  have := l.nd
  rw [List.map_cons, List.nodup_cons] at this
  exact this.1 (List.mem_map.mpr ⟨c, hc, z⟩)
theorem Lay.store {G H : Hp} {L : List Cell} {p : Addr} {o u : HO} (l : Lay G ((p, o) :: L) H) : Lay G ((p, u) :: L) (upd H p u) := by
  have f := l.ne
  have l0 := l.on (p, o) (List.mem_cons_self ..)
  refine ⟨fun b hb => ?_, fun c hc => ?_, by have := l.nd; simpa using this⟩
  · have e : b ≠ p := fun z => hb (p, u) (List.mem_cons_self ..) z.symm
    rw [upd_ne e]
    refine l.off b fun c hc => ?_
    rcases List.mem_cons.mp hc with z | z
    · subst z; exact fun z => e z.symm
    · exact hb c (List.mem_cons_of_mem _ z)
  · rcases List.mem_cons.mp hc with z | z
    · subst z; exact ⟨upd_same, l0.2⟩
    · rw [upd_ne (f c z)]; exact l.on c (List.mem_cons_of_mem _ z)
theorem Lay.freeze {G H : Hp} {L : List Cell} {p : Addr} {o : HO} (l : Lay G ((p, o) :: L) H) : Lay (upd G p o) L H := by
  have f := l.ne
  have l0 := l.on (p, o) (List.mem_cons_self ..)
  refine ⟨fun b hb => ?_, fun c hc => ?_, ?_⟩
  · by_cases e : b = p
    · rw [e, upd_same]; exact l0.1
    · rw [upd_ne e]
      refine l.off b fun c hc => ?_
      rcases List.mem_cons.mp hc with z | z
      · subst z; exact fun z => e z.symm
      · exact hb c z
  · rw [upd_ne (f c hc)]; exact l.on c (List.mem_cons_of_mem _ hc)
  · have := l.nd
    rw [List.map_cons, List.nodup_cons] at this
    exact this.2
theorem same_upd {G : Hp} {p : Addr} {o : HO} (h : G p = none) : Same G (upd G p o) := fun b x e => by
  rw [upd_ne (ne_of_none e h)]; exact e
theorem Lay.freezeAll {G H : Hp} : ∀ {L M : List Cell}, Lay G (L ++ M) H → ∃ G', Same G G' ∧ Lay G' M H ∧ ∀ c ∈ L, G' c.1 = some c.2
  | [], M, l => ⟨G, Same.refl G, l, fun _ h => (by cases h)⟩
  | (p, o) :: L, M, l => by
    have hp := (l.on (p, o) (List.mem_cons_self ..)).2
    have l' : Lay (upd G p o) (L ++ M) H := Lay.freeze l
    obtain ⟨G', s, l'', k⟩ := Lay.freezeAll l'
    refine ⟨G', (same_upd hp).trans s, l'', fun c hc => ?_⟩
    rcases List.mem_cons.mp hc with z | z
    · subst z; exact s _ _ upd_same
    · exact k c z

/-- a new cell taken out again -/
theorem Lay.uncell {G H : Hp} {L : List Cell} {p : Addr} {o : HO} (l : Lay G ((p, o) :: L) H) : ∃ H', H' p = none ∧ H = upd H' p o ∧ Lay G L H' := by
  refine ⟨fun b => if b = p then none else H b, if_pos rfl, ?_, fun b hb => ?_, fun c hc => ?_, ?_⟩
  · funext b
    by_cases hb : b = p
    · rw [hb, upd_same]; exact (l.on _ (List.mem_cons_self ..)).1
    · rw [upd_ne hb, if_neg hb]
  · by_cases h : b = p
    · rw [h, if_pos rfl]; exact ((l.on _ (List.mem_cons_self ..)).2).symm
    · rw [if_neg h]
      refine l.off b fun c hc => ?_
      rcases List.mem_cons.mp hc with z | z
      · subst z; exact fun z => h z.symm
      · exact hb c z
  · rw [if_neg (l.ne c hc)]; exact l.on c (List.mem_cons_of_mem _ hc)
  · have := l.nd
    rw [List.map_cons, List.nodup_cons] at this
    exact this.2

/-! ### descriptions -/
/-- a value, by what stays true as the heap grows -/
structure Rp where
  p : Hp → V → Prop
  up : ∀ {H H' : Hp} {v : V}, Same H H' → p H v → p H' v
/-- an owned thing: its address, its cells -/
structure Op where
  p : Hp → Addr → List Cell → Prop
  up : ∀ {H H' : Hp} {a : Addr} {cs : List Cell}, Same H H' → p H a cs → p H' a cs
/-- a value that may stand in a cell of somebody's: G, the cells -/
structure Bw where
  p : Hp → List Cell → V → Prop
  up : ∀ {H H' : Hp} {L L' : List Cell} {v : V}, Same H H' → (∀ c ∈ L, c ∈ L') → p H L v → p H' L' v
def pu (R : Rp) : Bw := ⟨fun G _ v => R.p G v, fun e _ h => R.up e h⟩
inductive Sl where
  | x | p (R : Rp) | o (O : Op) | b (B : Bw)
inductive Slots (G : Hp) (L0 : List Cell) : L2.St → List Sl → List Cell → Prop
  | nil : Slots G L0 [] [] []
  | x {v σ ρ L} : Slots G L0 σ ρ L → Slots G L0 (v :: σ) (.x :: ρ) L
  | p {R : Rp} {v σ ρ L} : R.p G v → Slots G L0 σ ρ L → Slots G L0 (some v :: σ) (.p R :: ρ) L
  | o {O : Op} {a cs σ ρ L} : O.p G a cs → Slots G L0 σ ρ L → Slots G L0 (some (.ref a) :: σ) (.o O :: ρ) (cs ++ L)
  | b {B : Bw} {v σ ρ L} : B.p G L0 v → Slots G L0 σ ρ L → Slots G L0 (some v :: σ) (.b B :: ρ) L
theorem Slots.up {G G' : Hp} {L0 : List Cell} (e : Same G G') : ∀ {σ ρ L}, Slots G L0 σ ρ L → Slots G' L0 σ ρ L
  | _, _, _, .nil => .nil
  | _, _, _, .x s => .x (s.up e)
  | _, _, _, .p h s => .p (Rp.up _ e h) (s.up e)
  | _, _, _, .o h s => .o (Op.up _ e h) (s.up e)
  | _, _, _, .b h s => .b (Bw.up _ e (fun _ z => z) h) (s.up e)
theorem Slots.get_p {G : Hp} {L0 : List Cell} {R : Rp} : ∀ {σ ρ L} {i : Nat}, Slots G L0 σ ρ L → ρ[i]? = some (.p R) → ∃ v, σ[i]? = some (some v) ∧ R.p G v
  | _, _, _, _, .nil, h => by simp at h
  | _, _, _, 0, .x _, h => by simp at h
  | _, _, _, 0, .p q _, h => by simp at h; subst h; exact ⟨_, rfl, q⟩
  | _, _, _, 0, .o _ _, h => by simp at h
  | _, _, _, 0, .b _ _, h => by simp at h
  | _, _, _, i + 1, .b _ s, h => s.get_p (i := i) (by simpa using h)
  | _, _, _, i + 1, .x s, h => s.get_p (i := i) (by simpa using h)
  | _, _, _, i + 1, .p _ s, h => s.get_p (i := i) (by simpa using h)
  | _, _, _, i + 1, .o _ s, h => s.get_p (i := i) (by simpa using h)
/-- the slot i is set; what it owned is freed -/
theorem Slots.set_p {G : Hp} {L0 : List Cell} {R : Rp} {v : V} (q : R.p G v) : ∀ {σ ρ L} (i : Nat), Slots G L0 σ ρ L → ∃ C L', L.Perm (C ++ L') ∧ Slots G L0 (σ.set i (some v)) (ρ.set i (.p R)) L'
  | _, _, _, _, .nil => ⟨[], [], by simp, .nil⟩
  | _, _, _, 0, .x s => ⟨[], _, by simp, .p q s⟩
  | _, _, _, 0, .p _ s => ⟨[], _, by simp, .p q s⟩
  | _, _, _, 0, .b _ s => ⟨[], _, by simp, .p q s⟩
  | _, _, _, i + 1, .b h s => by
    obtain ⟨C, L', e, s'⟩ := s.set_p q i
    exact ⟨C, L', e, .b h s'⟩
  | _, _, _, 0, .o (cs := cs) _ s => ⟨cs, _, by simp, .p q s⟩
  | _, _, _, i + 1, .x s => by
    obtain ⟨C, L', e, s'⟩ := s.set_p q i
    exact ⟨C, L', e, .x s'⟩
  | _, _, _, i + 1, .p h s => by
    obtain ⟨C, L', e, s'⟩ := s.set_p q i
    exact ⟨C, L', e, .p h s'⟩
  | _, _, _, i + 1, .o (cs := cs) h s => by
    obtain ⟨C, L', e, s'⟩ := s.set_p q i
    refine ⟨C, cs ++ L', ?_, .o h s'⟩
    refine (e.append_left cs).trans ?_
    rw [← List.append_assoc, ← List.append_assoc]
    exact (List.perm_append_comm).append_right L'
theorem Slots.set_o {G : Hp} {L0 : List Cell} {O : Op} {a : Addr} {cs : List Cell} (q : O.p G a cs) : ∀ {σ ρ L} (i : Nat), i < σ.length → Slots G L0 σ ρ L → ∃ C L', L.Perm (C ++ L') ∧ ∃ L'', Slots G L0 (σ.set i (some (.ref a))) (ρ.set i (.o O)) L'' ∧ L''.Perm (cs ++ L')
  | _, _, _, _, h, .nil => by simp at h
  | _, _, _, 0, _, .x s => ⟨[], _, by simp, _, .o q s, .refl _⟩
  | _, _, _, 0, _, .p _ s => ⟨[], _, by simp, _, .o q s, .refl _⟩
  | _, _, _, 0, _, .b _ s => ⟨[], _, by simp, _, .o q s, .refl _⟩
  | _, _, _, i + 1, h, .b h1 s => by
    obtain ⟨C, L', e, L'', s', e'⟩ := s.set_o q i (by simpa using h)
    exact ⟨C, L', e, L'', .b h1 s', e'⟩
  | _, _, _, 0, _, .o (cs := ds) _ s => ⟨ds, _, by simp, _, .o q s, .refl _⟩
  | _, _, _, i + 1, h, .x s => by
    obtain ⟨C, L', e, L'', s', e'⟩ := s.set_o q i (by simpa using h)
    exact ⟨C, L', e, L'', .x s', e'⟩
  | _, _, _, i + 1, h, .p h1 s => by
    obtain ⟨C, L', e, L'', s', e'⟩ := s.set_o q i (by simpa using h)
    exact ⟨C, L', e, L'', .p h1 s', e'⟩
  | _, _, _, i + 1, h, .o (cs := ds) h1 s => by
    obtain ⟨C, L', e, L'', s', e'⟩ := s.set_o q i (by simpa using h)
    refine ⟨C, ds ++ L', ?_, ds ++ L'', .o h1 s', ?_⟩
    · refine (e.append_left ds).trans ?_
      rw [← List.append_assoc, ← List.append_assoc]
      exact (List.perm_append_comm).append_right L'
    · refine (e'.append_left ds).trans ?_
      rw [← List.append_assoc, ← List.append_assoc]
      exact (List.perm_append_comm).append_right L'
/-- the owned thing at slot i, and how it may change -/
theorem Slots.get_o {G : Hp} {L0 : List Cell} {O : Op} : ∀ {σ ρ L} {i : Nat}, Slots G L0 σ ρ L → ρ[i]? = some (.o O) → ∃ a cs M, σ[i]? = some (some (.ref a)) ∧ O.p G a cs ∧ L.Perm (cs ++ M) ∧
    (∀ (O' : Op) (cs' : List Cell), O'.p G a cs' → ∃ L', Slots G L0 σ (ρ.set i (.o O')) L' ∧ L'.Perm (cs' ++ M)) ∧ (∀ (G' : Hp) (R : Rp), Same G G' → R.p G' (.ref a) → Slots G' L0 σ (ρ.set i (.p R)) M)
  | _, _, _, _, .nil, h => by simp at h
  | _, _, _, 0, .x _, h => by simp at h
  | _, _, _, 0, .p _ _, h => by simp at h
  | _, _, _, 0, .b _ _, h => by simp at h
  | _, _, _, i + 1, .b q s, h => by
    obtain ⟨a, cs, M, h1, h2, h3, h4, h5⟩ := s.get_o (i := i) (by simpa using h)
    exact ⟨a, cs, M, by simpa using h1, h2, h3, fun O' cs' q' => by
      obtain ⟨L', s', e⟩ := h4 O' cs' q'
      exact ⟨L', .b q s', e⟩, fun G' R e r => .b (Bw.up _ e (fun _ z => z) q) (h5 G' R e r)⟩
  | _, _, _, 0, .o (a := a) (cs := cs) (L := M) q s, h => by
    simp at h; subst h
    exact ⟨a, cs, M, rfl, q, .refl _, fun O' cs' q' => ⟨_, .o q' s, .refl _⟩, fun G' R e r => .p r (s.up e)⟩
  | _, _, _, i + 1, .x s, h => by
    obtain ⟨a, cs, M, h1, h2, h3, h4, h5⟩ := s.get_o (i := i) (by simpa using h)
    exact ⟨a, cs, M, by simpa using h1, h2, h3, fun O' cs' q' => by
      obtain ⟨L', s', e⟩ := h4 O' cs' q'
      exact ⟨L', .x s', e⟩, fun G' R e r => .x (h5 G' R e r)⟩
  | _, _, _, i + 1, .p q s, h => by
    obtain ⟨a, cs, M, h1, h2, h3, h4, h5⟩ := s.get_o (i := i) (by simpa using h)
    exact ⟨a, cs, M, by simpa using h1, h2, h3, fun O' cs' q' => by
      obtain ⟨L', s', e⟩ := h4 O' cs' q'
      exact ⟨L', .p q s', e⟩, fun G' R e r => .p (Rp.up _ e q) (h5 G' R e r)⟩
  | _, _, _, i + 1, .o (cs := ds) q s, h => by
    obtain ⟨a, cs, M, h1, h2, h3, h4, h5⟩ := s.get_o (i := i) (by simpa using h)
    refine ⟨a, cs, ds ++ M, by simpa using h1, h2, ?_, fun O' cs' q' => ?_, fun G' R e r => .o (Op.up _ e q) (h5 G' R e r)⟩
    · refine (h3.append_left ds).trans ?_
      rw [← List.append_assoc, ← List.append_assoc]
      exact (List.perm_append_comm).append_right M
    · obtain ⟨L', s', e⟩ := h4 O' cs' q'
      refine ⟨ds ++ L', .o q s', ?_⟩
      refine (e.append_left ds).trans ?_
      rw [← List.append_assoc, ← List.append_assoc]
      exact (List.perm_append_comm).append_right M
theorem Slots.len {G : Hp} {L0 : List Cell} : ∀ {σ ρ L}, Slots G L0 σ ρ L → σ.length = ρ.length
  | _, _, _, .nil => rfl
  | _, _, _, .x s => by simp [s.len]
  | _, _, _, .p _ s => by simp [s.len]
  | _, _, _, .o _ s => by simp [s.len]
  | _, _, _, .b _ s => by simp [s.len]

theorem Slots.get_b {G : Hp} {L0 : List Cell} {B : Bw} : ∀ {σ ρ L} {i : Nat}, Slots G L0 σ ρ L → ρ[i]? = some (.b B) → ∃ v, σ[i]? = some (some v) ∧ B.p G L0 v
  | _, _, _, _, .nil, h => by simp at h
  | _, _, _, 0, .x _, h => by simp at h
  | _, _, _, 0, .p q _, h => by simp at h
  | _, _, _, 0, .o _ _, h => by simp at h
  | _, _, _, 0, .b q _, h => by simp at h; subst h; exact ⟨_, rfl, q⟩
  | _, _, _, i + 1, .b _ s, h => s.get_b (i := i) (by simpa using h)
  | _, _, _, i + 1, .x s, h => s.get_b (i := i) (by simpa using h)
  | _, _, _, i + 1, .p _ s, h => s.get_b (i := i) (by simpa using h)
  | _, _, _, i + 1, .o _ s, h => s.get_b (i := i) (by simpa using h)
/-- less is told -/
inductive Wk : List Sl → List Sl → Prop
  | nil : Wk [] []
  | x {s ρ ρ'} : Wk ρ ρ' → Wk (s :: ρ) (.x :: ρ')
  | k {s ρ ρ'} : Wk ρ ρ' → Wk (s :: ρ) (s :: ρ')
theorem Wk.refl : ∀ ρ, Wk ρ ρ
  | [] => .nil
  | _ :: ρ => .k (Wk.refl ρ)
theorem Slots.weak {G : Hp} {L0 : List Cell} : ∀ {σ ρ ρ' L}, Slots G L0 σ ρ L → Wk ρ ρ' → ∃ C L', L.Perm (C ++ L') ∧ Slots G L0 σ ρ' L'
  | _, _, _, _, .nil, .nil => ⟨[], [], by simp, .nil⟩
  | _, _, _, _, .x s, .x w | _, _, _, _, .x s, .k w => by
    obtain ⟨C, L', e, s'⟩ := s.weak w
    exact ⟨C, L', e, .x s'⟩
  | _, _, _, _, .p h s, .x w | _, _, _, _, .b h s, .x w => by
    obtain ⟨C, L', e, s'⟩ := s.weak w
    exact ⟨C, L', e, .x s'⟩
  | _, _, _, _, .p h s, .k w => by
    obtain ⟨C, L', e, s'⟩ := s.weak w
    exact ⟨C, L', e, .p h s'⟩
  | _, _, _, _, .b h s, .k w => by
    obtain ⟨C, L', e, s'⟩ := s.weak w
    exact ⟨C, L', e, .b h s'⟩
  | _, _, _, _, .o (cs := cs) h s, .x w => by
    obtain ⟨C, L', e, s'⟩ := s.weak w
    refine ⟨cs ++ C, L', ?_, .x s'⟩
    rw [List.append_assoc]
    exact e.append_left cs
  | _, _, _, _, .o (cs := cs) h s, .k w => by
    obtain ⟨C, L', e, s'⟩ := s.weak w
    exact ⟨C, cs ++ L', (e.append_left cs).trans (perm_swap _ _ _), .o h s'⟩

/-- the state: G, the slots, the callers' cells L0 -/
def Stt (G : Hp) (ρ : List Sl) (σ : L2.St) (L0 : List Cell) (H : Hp) : Prop := ∃ L, Slots G L0 σ ρ L ∧ Lay G (L ++ L0) H
section
variable {G H : Hp} {ρ : List Sl} {σ : L2.St} {L0 : List Cell}
theorem Stt.same (s : Stt G ρ σ L0 H) : Same G H := by
  obtain ⟨L, _, l⟩ := s
  exact l.same
theorem Stt.len (s : Stt G ρ σ L0 H) : σ.length = ρ.length := by
  obtain ⟨L, h, _⟩ := s
  exact h.len
theorem Stt.get_p (s : Stt G ρ σ L0 H) {R : Rp} {i : Nat} (h : ρ[i]? = some (.p R)) : ∃ v, σ[i]? = some (some v) ∧ R.p G v := by
  obtain ⟨L, q, _⟩ := s
  exact q.get_p h
theorem Stt.get_b (s : Stt G ρ σ L0 H) {B : Bw} {i : Nat} (h : ρ[i]? = some (.b B)) : ∃ v, σ[i]? = some (some v) ∧ B.p G L0 v := by
  obtain ⟨L, q, _⟩ := s
  exact q.get_b h
theorem Stt.weak (s : Stt G ρ σ L0 H) {ρ' : List Sl} (w : Wk ρ ρ') : ∃ G', Same G G' ∧ Stt G' ρ' σ L0 H := by
  obtain ⟨L, q, l⟩ := s
  obtain ⟨C, L', e, q'⟩ := q.weak w
  have l' : Lay G (C ++ (L' ++ L0)) H := by
    rw [← List.append_assoc]
    exact l.perm (e.append_right L0)
  obtain ⟨G', e', l'', _⟩ := l'.freezeAll
  exact ⟨G', e', L', q'.up e', l''⟩
theorem Stt.fin (s : Stt G ρ σ L0 H) : ∃ G', Same G G' ∧ Lay G' L0 H := by
  obtain ⟨L, q, l⟩ := s
  obtain ⟨G', e', l'', _⟩ := l.freezeAll
  exact ⟨G', e', l''⟩
theorem Stt.grow (s : Stt G ρ σ L0 H) {p : Addr} {o : HO} (h : H p = none) : Same G (upd G p o) ∧ Stt (upd G p o) ρ σ L0 (upd H p o) := by
  obtain ⟨L, q, l⟩ := s
  have e := same_upd (o := o) (l.freshG h)
  exact ⟨e, L, q.up e, l.grow h⟩
theorem Stt.set_p (s : Stt G ρ σ L0 H) {R : Rp} {v : V} (r : R.p G v) (i : Nat) : ∃ G', Same G G' ∧ Stt G' (ρ.set i (.p R)) (σ.set i (some v)) L0 H := by
  obtain ⟨L, q, l⟩ := s
  obtain ⟨C, L', e, q'⟩ := q.set_p r i
  have l' : Lay G (C ++ (L' ++ L0)) H := by
    rw [← List.append_assoc]
    exact l.perm (e.append_right L0)
  obtain ⟨G', e', l'', _⟩ := l'.freezeAll
  exact ⟨G', e', L', q'.up e', l''⟩
/-- a new owned thing, its cells already laid beside -/
theorem Stt.set_o (s : Stt G ρ σ L0 H) {O : Op} {a : Addr} {cs : List Cell} {H' : Hp} (r : O.p G a cs) (i : Nat) (hi : i < ρ.length) (hl : ∀ M, Lay G M H → Lay G (cs ++ M) H') : ∃ G', Same G G' ∧ Stt G' (ρ.set i (.o O)) (σ.set i (some (.ref a))) L0 H' := by
  obtain ⟨L, q, l⟩ := s
  obtain ⟨C, L', e, L'', q', e'⟩ := q.set_o r i (by rw [q.len]; exact hi)
  have l1 : Lay G (cs ++ (C ++ (L' ++ L0))) H' := hl _ (by
    rw [← List.append_assoc]
    exact l.perm (e.append_right L0))
  have l2 : Lay G (C ++ (L'' ++ L0)) H' := l1.perm (by
    refine (perm_swap _ _ _).trans (List.Perm.append_left C ?_)
    rw [← List.append_assoc]
    exact (e'.symm).append_right L0)
  obtain ⟨G', e3, l3, _⟩ := l2.freezeAll
  exact ⟨G', e3, L'', q'.up e3, l3⟩
theorem Stt.get_o (s : Stt G ρ σ L0 H) {O : Op} {i : Nat} (h : ρ[i]? = some (.o O)) : ∃ a cs, σ[i]? = some (some (.ref a)) ∧ O.p G a cs ∧ (∀ c ∈ cs, H c.1 = some c.2) ∧
    (∀ (O' : Op) (cs' : List Cell) (H' : Hp), O'.p G a cs' → (∀ M, Lay G (cs ++ M) H → Lay G (cs' ++ M) H') → Stt G (ρ.set i (.o O')) σ L0 H') ∧
    (∀ (R : Rp), (∀ G', Same G G' → (∀ c ∈ cs, G' c.1 = some c.2) → R.p G' (.ref a)) → ∃ G', Same G G' ∧ Stt G' (ρ.set i (.p R)) σ L0 H) := by
  obtain ⟨L, q, l⟩ := s
  obtain ⟨a, cs, M, h1, h2, h3, h4, h5⟩ := q.get_o h
  have l1 : Lay G (cs ++ (M ++ L0)) H := by
    rw [← List.append_assoc]
    exact l.perm (h3.append_right L0)
  refine ⟨a, cs, h1, h2, fun c hc => (l1.on c (List.mem_append_left _ hc)).1, fun O' cs' H' q' hl => ?_, fun R hR => ?_⟩
  · obtain ⟨L', s', e⟩ := h4 O' cs' q'
    refine ⟨L', s', (hl _ l1).perm ?_⟩
    rw [← List.append_assoc]
    exact (e.symm).append_right L0
  · obtain ⟨G', e', l'', k⟩ := l1.freezeAll
    exact ⟨G', e', M, h5 G' R e' (hR G' e' k), l''⟩
end
end Z

set_option Elab.async false
set_option linter.all false
set_option maxRecDepth 100000
set_option maxHeartbeats 2000000
/-! Zb: data, what an expression, a test, a statement comes to. -/
namespace Z
open PySem PySem.Spec PyProof.Rows L2
section
variable {K : PySem.W.Frag}
theorem sqT_up {H H' : Hp} {a : Addr} {xs : List V} (e : Same H H') (h : SqT K H a xs) : SqT K H' a xs := by
  rcases h with (h | ⟨o, h⟩) | h
  · exact .inl (.inl (e _ _ h))
  · exact .inl (.inr ⟨o, e _ _ h⟩)
  · exact .inr h
mutual
/-- data at a value: every list and tuple stands in H -/
inductive Dq (H : Hp) : V → PyData → Prop
  | non : Dq H .non .none
  | bl (b : Bool) : Dq H (.bl b) (.bool b)
  | int (i : Int) : Dq H (.int i) (.int i)
  | str (x : Str) : Dq H (.str x) (.str x)
  | lst {a : Addr} {xs : List V} {ds : List PyData} : H a = some (.lst xs) → DqAll H xs ds → Dq H (.ref a) (.list ds)
  | tup {a : Addr} {xs : List V} {ds : List PyData} : H a = some (.tup xs) → DqAll H xs ds → Dq H (.ref a) (.tuple ds)
inductive DqAll (H : Hp) : List V → List PyData → Prop
  | nil : DqAll H [] []
  | cons {v : V} {vs : List V} {d : PyData} {ds : List PyData} : Dq H v d → DqAll H vs ds → DqAll H (v :: vs) (d :: ds)
end
mutual
theorem dp_up {H H' : Hp} (e : Same H H') : ∀ {v : V} {d : PyData}, Dq H v d → Dq H' v d
  | _, _, .non => .non
  | _, _, .bl b => .bl b
  | _, _, .int i => .int i
  | _, _, .str x => .str x
  | _, _, .lst h a => .lst (e _ _ h) (dpAll_up e a)
  | _, _, .tup h a => .tup (e _ _ h) (dpAll_up e a)
theorem dpAll_up {H H' : Hp} (e : Same H H') : ∀ {vs : List V} {ds : List PyData}, DqAll H vs ds → DqAll H' vs ds
  | _, _, .nil => .nil
  | _, _, .cons h t => .cons (dp_up e h) (dpAll_up e t)
end
mutual
theorem dq_dp {H : Hp} : ∀ {v : V} {d : PyData}, Dq H v d → L2.Dp K H v d
  | _, _, .non => .non
  | _, _, .bl b => .bl b
  | _, _, .int i => .int i
  | _, _, .str x => .str x
  | _, _, .lst h a => .lst (.inl (.inl h)) (dqAll_dp a)
  | _, _, .tup h a => .tup (.inl (.inl h)) (dqAll_dp a)
theorem dqAll_dp {H : Hp} : ∀ {vs : List V} {ds : List PyData}, DqAll H vs ds → L2.DpAll K H vs ds
  | _, _, .nil => .nil
  | _, _, .cons h t => .cons (dq_dp h) (dqAll_dp t)
end
theorem dpAll_len {H : Hp} : ∀ {vs : List V} {ds : List PyData}, DqAll H vs ds → vs.length = ds.length
  | _, _, .nil => rfl
  | _, _, .cons _ t => by simp [dpAll_len t]
theorem dpAll_get {H : Hp} : ∀ {vs : List V} {ds : List PyData} {i : Nat} {d : PyData}, DqAll H vs ds → ds[i]? = some d → ∃ v, vs[i]? = some v ∧ Dq H v d
  | _, _, _, _, .nil, h => by simp at h
  | _, _, 0, _, .cons q _, h => by simp at h; subst h; exact ⟨_, rfl, q⟩
  | _, _, i + 1, _, .cons _ t, h => by simpa using dpAll_get (i := i) t (by simpa using h)
theorem dpAll_get' {H : Hp} : ∀ {vs : List V} {ds : List PyData} {i : Nat} {v : V}, DqAll H vs ds → vs[i]? = some v → ∃ d, ds[i]? = some d ∧ Dq H v d
  | _, _, _, _, .nil, h => by simp at h
  | _, _, 0, _, .cons q _, h => by simp at h; subst h; exact ⟨_, rfl, q⟩
  | _, _, i + 1, _, .cons _ t, h => by simpa using dpAll_get' (i := i) t (by simpa using h)
theorem dpAll_app {H : Hp} : ∀ {vs ws : List V} {ds es : List PyData}, DqAll H vs ds → DqAll H ws es → DqAll H (vs ++ ws) (ds ++ es)
  | _, _, _, _, .nil, s => s
  | _, _, _, _, .cons q t, s => .cons q (dpAll_app t s)
theorem dpAll_take {H : Hp} : ∀ {vs : List V} {ds : List PyData} (n : Nat), DqAll H vs ds → DqAll H (vs.take n) (ds.take n)
  | _, _, 0, _ => .nil
  | _, _, _ + 1, .nil => .nil
  | _, _, n + 1, .cons q t => .cons q (dpAll_take n t)
theorem dpAll_drop {H : Hp} : ∀ {vs : List V} {ds : List PyData} (n : Nat), DqAll H vs ds → DqAll H (vs.drop n) (ds.drop n)
  | _, _, 0, s => s
  | _, _, _ + 1, .nil => .nil
  | _, _, n + 1, .cons _ t => dpAll_drop n t
theorem dpAll_set {H : Hp} {v : V} {d : PyData} (r : Dq H v d) : ∀ {vs : List V} {ds : List PyData} (n : Nat), DqAll H vs ds → DqAll H (vs.set n v) (ds.set n d)
  | _, _, _, .nil => .nil
  | _, _, 0, .cons _ t => .cons r t
  | _, _, n + 1, .cons q t => .cons q (dpAll_set r n t)
theorem dpAll_rep {H : Hp} : ∀ {vs : List V} {ds : List PyData} (n : Nat), DqAll H vs ds → DqAll H (List.replicate n vs).flatten (List.replicate n ds).flatten
  | _, _, 0, _ => .nil
  | _, _, n + 1, s => by
    rw [List.replicate_succ, List.replicate_succ, List.flatten_cons, List.flatten_cons]
    exact dpAll_app s (dpAll_rep n s)
theorem dpAll_ints {H : Hp} : ∀ {vs : List V} {ns : List Int}, DqAll H vs (ns.map PyData.int) → vs = ns.map V.int
  | [], [], .nil => rfl
  | _ :: _, n :: ns, .cons q t => by
    cases q
    rw [dpAll_ints t]; rfl
theorem dpAll_bools {H : Hp} : ∀ {vs : List V} {ns : List Bool}, DqAll H vs (ns.map PyData.bool) → vs = ns.map V.bl
  | [], [], .nil => rfl
  | _ :: _, n :: ns, .cons q t => by
    cases q
    rw [dpAll_bools t]; rfl
theorem dpAll_of_ints {H : Hp} : ∀ (ns : List Int), DqAll H (ns.map V.int) (ns.map PyData.int)
  | [] => .nil
  | n :: ns => .cons (.int n) (dpAll_of_ints ns)
end
/-- data that stays -/
def dat (d : PyData) : Rp := ⟨fun H v => Dq H v d, fun e h => dp_up e h⟩
/-- a list, wherever it stands, of data that stays -/
def bL (ds : List PyData) : Bw := ⟨fun G L v => ∃ a vs, v = .ref a ∧ (G a = some (.lst vs) ∨ (a, HO.lst vs) ∈ L) ∧ DqAll G vs ds, fun e l h => by
  obtain ⟨a, vs, r, q, d⟩ := h
  exact ⟨a, vs, r, q.elim (fun z => .inl (e _ _ z)) (fun z => .inr (l _ z)), dpAll_up e d⟩⟩
/-- an owned list of data that stays -/
def oL (ds : List PyData) : Op := ⟨fun G a cs => ∃ vs, cs = [(a, HO.lst vs)] ∧ DqAll G vs ds, fun e h => by
  obtain ⟨vs, r, d⟩ := h
  exact ⟨vs, r, dpAll_up e d⟩⟩
abbrev dI (i : Int) : Rp := dat (.int i)
abbrev dB (b : Bool) : Rp := dat (.bool b)

/-! ### expressions -/
/-- the value has B, now and as long as the slots stand -/
structure Ev (te : TE) (ρ : List Sl) (B : Bw) : Prop where
  run : ∀ {G : Hp} {σ : L2.St} {L0 : List Cell} {H : Hp} (Q : VK), Stt G ρ σ L0 H →
    (∀ G' H' v, Same G G' → Stt G' ρ σ L0 H' → (∀ G'' L'' H'', Same G' G'' → Slots G'' L0 σ ρ L'' → Lay G'' (L'' ++ L0) H'' → B.p G'' (L'' ++ L0) v) → Q v H') → te σ H Q
/-- a new list -/
structure EvN (te : TE) (ρ : List Sl) (ds : List PyData) : Prop where
  run : ∀ {G : Hp} {σ : L2.St} {L0 : List Cell} {H : Hp} (Q : VK), Stt G ρ σ L0 H →
    (∀ G' H' p vs, Same G G' → Stt G' ρ σ L0 H' → H' p = none → DqAll G' vs ds → Q (.ref p) (upd H' p (.lst vs))) → te σ H Q
structure EvT (tt : TT) (ρ : List Sl) (b : Bool) : Prop where
  run : ∀ {G : Hp} {σ : L2.St} {L0 : List Cell} {H : Hp} (Q : Bool → Hp → Prop), Stt G ρ σ L0 H →
    (∀ G' H', Same G G' → Stt G' ρ σ L0 H' → Q b H') → tt σ H Q
inductive AllB (G : Hp) (L : List Cell) : List V → List Bw → Prop
  | nil : AllB G L [] []
  | cons {v vs} {B : Bw} {Bs} : B.p G L v → AllB G L vs Bs → AllB G L (v :: vs) (B :: Bs)
structure EvA (ta : TA) (ρ : List Sl) (Bs : List Bw) : Prop where
  run : ∀ {G : Hp} {σ : L2.St} {L0 : List Cell} {H : Hp} (Q : List V → Hp → Prop), Stt G ρ σ L0 H →
    (∀ G' H' vs, Same G G' → Stt G' ρ σ L0 H' → (∀ G'' L'' H'', Same G' G'' → Slots G'' L0 σ ρ L'' → Lay G'' (L'' ++ L0) H'' → AllB G'' (L'' ++ L0) vs Bs) → Q vs H') → ta σ H Q
section
variable {K : PySem.W.Frag} {ρ : List Sl} {te ta tb : TE} {R : Rp} {B Ba Bb : Bw} {i j : Int}
/-- with pure results the wish is simple -/
theorem Ev.pure (h : ∀ {G : Hp} {σ : L2.St} {L0 : List Cell} {H : Hp} (Q : VK), Stt G ρ σ L0 H → (∀ G' H' v, Same G G' → Stt G' ρ σ L0 H' → R.p G' v → Q v H') → te σ H Q) : Ev te ρ (pu R) :=
  ⟨fun Q s q => h Q s fun G' H' v e s' r => q G' H' v e s' fun G'' L'' H'' e' _ _ => R.up e' r⟩
theorem Ev.at (h : Ev te ρ B) {G : Hp} {σ : L2.St} {L0 : List Cell} {H : Hp} {Q : VK} (s : Stt G ρ σ L0 H) (q : ∀ G' H' v L, Same G G' → Stt G' ρ σ L0 H' → Slots G' L0 σ ρ L → Lay G' (L ++ L0) H' → B.p G' (L ++ L0) v → Q v H') : te σ H Q :=
  h.run Q s fun G' H' v e s' r => by
    obtain ⟨L, a, b⟩ := id s'
    exact q G' H' v L e s' a b (r G' L H' (Same.refl _) a b)
theorem Ev.atp (h : Ev te ρ (pu R)) {G : Hp} {σ : L2.St} {L0 : List Cell} {H : Hp} {Q : VK} (s : Stt G ρ σ L0 H) (q : ∀ G' H' v, Same G G' → Stt G' ρ σ L0 H' → R.p G' v → Q v H') : te σ H Q :=
  h.at s fun G' H' v _ e s' _ _ r => q G' H' v e s' r
theorem Ev.imp {B' : Bw} (h : Ev te ρ B) (k : ∀ G L v, B.p G L v → B'.p G L v) : Ev te ρ B' := ⟨fun Q s q => h.run Q s fun G' H' v e s' r => q G' H' v e s' fun G'' L'' H'' e' a b => k _ _ _ (r G'' L'' H'' e' a b)⟩
theorem Ev.is {B' : Bw} (h : Ev te ρ B) (k : B = B') : Ev te ρ B' := by rw [← k]; exact h
theorem ev_var {i : Nat} (h : ρ[i]? = some (.p R)) : Ev (tVar i) ρ (pu R) := by
  refine Ev.pure fun Q s q => ?_
  obtain ⟨v, e, r⟩ := s.get_p h
  exact ⟨v, e, q _ _ v (Same.refl _) s r⟩
theorem ev_b {i : Nat} (h : ρ[i]? = some (.b B)) : Ev (tVar i) ρ B := by
  refine ⟨fun Q s q => ?_⟩
  obtain ⟨v, e, r⟩ := s.get_b h
  exact ⟨v, e, q _ _ v (Same.refl _) s fun G'' L'' H'' e' a b => B.up e' (fun c hc => List.mem_append_right _ hc) r⟩
/-- an owned list, read -/
theorem ev_o {ds : List PyData} {i : Nat} (h : ρ[i]? = some (.o (oL ds))) : Ev (tVar i) ρ (bL ds) := by
  refine ⟨fun Q s q => ?_⟩
  obtain ⟨a, cs, e, _⟩ := s.get_o h
  refine ⟨_, e, q _ _ _ (Same.refl _) s fun G'' L'' H'' e' sl la => ?_⟩
  obtain ⟨a', cs', M, e1, ⟨vs, e2, d⟩, pm, _⟩ := sl.get_o h
  rw [e] at e1
  injection e1 with e1; injection e1 with e1; injection e1 with e1
  subst e1 e2
  exact ⟨a, vs, rfl, .inr (List.mem_append_left _ (pm.mem_iff.mpr (List.mem_append_left _ (List.mem_cons_self ..)))), d⟩
theorem bl_of_dat {ds : List PyData} : ∀ G L v, (pu (dat (.list ds))).p G L v → (bL ds).p G L v := fun G L v h => by
  have h : Dq G v (.list ds) := h
  cases h with
  | lst a b => exact ⟨_, _, rfl, .inl a, b⟩
theorem Ev.bl {ds : List PyData} (h : Ev te ρ (pu (dat (.list ds)))) : Ev te ρ (bL ds) := h.imp bl_of_dat
theorem ev_int : Ev (tC (.int i)) ρ (pu (dI i)) := Ev.pure fun Q s q => q _ _ _ (Same.refl _) s (Dq.int i)
theorem ev_bl {b : Bool} : Ev (tC (.bl b)) ρ (pu (dB b)) := Ev.pure fun Q s q => q _ _ _ (Same.refl _) s (Dq.bl b)
theorem ev_non : Ev (tC .non) ρ (pu (dat .none)) := Ev.pure fun Q s q => q _ _ _ (Same.refl _) s Dq.non
theorem ev_str {x : Str} : Ev (tC (.str x)) ρ (pu (dat (.str x))) := Ev.pure fun Q s q => q _ _ _ (Same.refl _) s (Dq.str x)
theorem EvN.ev {ds : List PyData} (h : EvN te ρ ds) : Ev te ρ (pu (dat (.list ds))) := Ev.pure fun Q s q => h.run Q s fun G' H' p vs e s' hp d => by
  have g := s'.grow (o := .lst vs) hp
  exact q _ _ _ (e.trans g.1) g.2 (Dq.lst upd_same (dpAll_up g.1 d))
theorem EvN.is {ds ds' : List PyData} (h : EvN te ρ ds) (e : ds = ds') : EvN te ρ ds' := by rw [← e]; exact h
/-- an operation on two values, that makes nothing -/
def Op2 (r : R2) (Ba Bb : Bw) (R : Rp) : Prop := ∀ (G H : Hp) (L : List Cell) (x y : V) (Q : VK), Lay G L H → Ba.p G L x → Bb.p G L y → (∀ v, R.p G v → Q v H) → r x y H Q
theorem ev_op {r : R2} (ha : Ev ta ρ Ba) (hb : Ev tb ρ Bb) (h : Op2 r Ba Bb R) : Ev (tOp r ta tb) ρ (pu R) := Ev.pure fun Q s q =>
  ha.run _ s fun G1 H1 x e1 s1 rx => hb.run _ s1 fun G2 H2 y e2 s2 ry => by
    obtain ⟨L, a, b⟩ := id s2
    exact h G2 H2 _ x y Q b (rx G2 L H2 e2 a b) (ry G2 L H2 (Same.refl _) a b) fun v rv => q G2 H2 v (e1.trans e2) s2 rv
/-- .. that makes a new list -/
def Op2N (r : R2) (Ba Bb : Bw) (ds : List PyData) : Prop := ∀ (G H : Hp) (L : List Cell) (x y : V) (Q : VK), Lay G L H → Ba.p G L x → Bb.p G L y → (∀ p vs, H p = none → DqAll G vs ds → Q (.ref p) (upd H p (.lst vs))) → r x y H Q
theorem ev_opN {r : R2} {ds : List PyData} (ha : Ev ta ρ Ba) (hb : Ev tb ρ Bb) (h : Op2N r Ba Bb ds) : EvN (tOp r ta tb) ρ ds := ⟨fun Q s q =>
  ha.run _ s fun G1 H1 x e1 s1 rx => hb.run _ s1 fun G2 H2 y e2 s2 ry => by
    obtain ⟨L, a, b⟩ := id s2
    exact h G2 H2 _ x y Q b (rx G2 L H2 e2 a b) (ry G2 L H2 (Same.refl _) a b) fun p vs hp d => q G2 H2 p vs (e1.trans e2) s2 hp d⟩
theorem o_int0 {g : Int → Int → Int} : Op2 (rI0 fun i j => .int (g i j)) (pu (dI i)) (pu (dI j)) (dI (g i j)) := fun G H L x y Q _ hx hy q => by
  cases hx; cases hy
  exact ⟨i, j, rfl, rfl, q _ (Dq.int _)⟩
theorem o_bool0 {g : Int → Int → Bool} : Op2 (rI0 fun i j => .bl (g i j)) (pu (dI i)) (pu (dI j)) (dB (g i j)) := fun G H L x y Q _ hx hy q => by
  cases hx; cases hy
  exact ⟨i, j, rfl, rfl, q _ (Dq.bl _)⟩
theorem o_intC {C : Int → Int → Prop} {g : Int → Int → Int} (hc : C i j) : Op2 (rI C fun i j => .int (g i j)) (pu (dI i)) (pu (dI j)) (dI (g i j)) := fun G H L x y Q _ hx hy q => by
  cases hx; cases hy
  exact ⟨i, j, rfl, rfl, hc, q _ (Dq.int _)⟩
theorem o_eqI : Op2 rEq (pu (dI i)) (pu (dI j)) (dB (decide (i = j))) := fun G H L x y Q _ hx hy q => by
  cases hx; cases hy
  refine ⟨rfl, q _ ?_⟩
  rw [show decide (V.int i = V.int j) = decide (i = j) by simp]
  exact Dq.bl _
theorem o_neI : Op2 rNe (pu (dI i)) (pu (dI j)) (dB (!decide (i = j))) := fun G H L x y Q _ hx hy q => by
  cases hx; cases hy
  refine ⟨rfl, q _ ?_⟩
  rw [show decide (V.int i = V.int j) = decide (i = j) by simp]
  exact Dq.bl _
theorem o_eqD {d e : PyData} (hd : SeqAt.shaped d = true) (he : SeqAt.shaped e = true) : Op2 (rEqD K) (pu (dat d)) (pu (dat e)) (dB (PyData.eqv d e)) := fun G H L x y Q l hx hy q =>
  ⟨d, e, dq_dp (dp_up l.same hx), dq_dp (dp_up l.same hy), hd, he, q _ (Dq.bl _)⟩
theorem o_neD {d e : PyData} (hd : SeqAt.shaped d = true) (he : SeqAt.shaped e = true) : Op2 (rNeD K) (pu (dat d)) (pu (dat e)) (dB (!PyData.eqv d e)) := fun G H L x y Q l hx hy q =>
  ⟨d, e, dq_dp (dp_up l.same hx), dq_dp (dp_up l.same hy), hd, he, q _ (Dq.bl _)⟩
theorem bl_sq {G H : Hp} {L : List Cell} {ds : List PyData} {v : V} (l : Lay G L H) (h : (bL ds).p G L v) : ∃ a vs, v = .ref a ∧ H a = some (.lst vs) ∧ DqAll G vs ds := by
  obtain ⟨a, vs, r, q, d⟩ := h
  exact ⟨a, vs, r, q.elim (fun z => l.same _ _ z) (fun z => (l.on _ z).1), d⟩
theorem atI_all {G : Hp} {vs : List V} {ds : List PyData} {d : PyData} (h : DqAll G vs ds) (e : atI ds i = some d) : ∃ v, atI vs i = some v ∧ Dq G v d := by
  unfold atI at e ⊢
  rw [dpAll_len h]
  cases q : ixN ds.length i with
  | none => rw [q] at e; cases e
  | some k =>
    rw [q] at e
    exact dpAll_get h e
theorem o_ixL {ds : List PyData} {d : PyData} (e : atI ds i = some d) : Op2 (rIxL K) (bL ds) (pu (dI i)) (dat d) := fun G H L x y Q l hx hy q => by
  obtain ⟨a, vs, r, h, dd⟩ := bl_sq l hx
  cases hy
  obtain ⟨v, hv, dv⟩ := atI_all dd e
  exact ⟨a, vs, i, v, r, rfl, .inl (.inl h), hv, q v dv⟩
theorem o_ixT {ds : List PyData} {d : PyData} (e : atI ds i = some d) : Op2 (rIxT K) (pu (dat (.tuple ds))) (pu (dI i)) (dat d) := fun G H L x y Q l hx hy q => by
  have hx : Dq G x (.tuple ds) := hx
  cases hx with
  | tup h dd =>
    cases hy
    obtain ⟨v, hv, dv⟩ := atI_all dd e
    exact ⟨_, _, i, v, rfl, rfl, .inl (.inl (l.same _ _ h)), hv, q v dv⟩
/-- a one-place operation -/
theorem ev_neg (ha : Ev ta ρ (pu (dI i))) : Ev (tUn (rU fun i => .int (-i)) ta) ρ (pu (dI (-i))) := Ev.pure fun Q s q =>
  ha.atp s fun G' H' v e s' r => by
    cases r
    exact ⟨i, rfl, q _ _ _ e s' (Dq.int _)⟩
/-! tests -/
theorem et_test {b : Bool} (h : Ev te ρ (pu (dB b))) : EvT (tTest te) ρ b := ⟨fun Q s q => h.atp s fun G' H' v e s' r => by
  cases r
  exact ⟨b, rfl, q _ _ e s'⟩⟩
theorem et_B {b : Bool} (h : Ev te ρ (pu (dB b))) : EvT (tB te) ρ b := ⟨fun Q s q => h.atp s fun G' H' v e s' r => by
  cases r
  exact ⟨b, rfl, q _ _ e s'⟩⟩
theorem et_and {t u : TT} {a b : Bool} (h1 : EvT t ρ a) (h2 : a = true → EvT u ρ b) : EvT (tAnd t u) ρ (a && b) := ⟨fun Q s q => h1.run _ s fun G1 H1 e1 s1 => by
  cases a with
  | true =>
    show u _ _ Q
    exact (h2 rfl).run Q s1 fun G2 H2 e2 s2 => q G2 H2 (e1.trans e2) s2
  | false => exact q G1 H1 e1 s1⟩
theorem et_or {t u : TT} {a b : Bool} (h1 : EvT t ρ a) (h2 : a = false → EvT u ρ b) : EvT (tOr t u) ρ (a || b) := ⟨fun Q s q => h1.run _ s fun G1 H1 e1 s1 => by
  cases a with
  | false =>
    show u _ _ Q
    exact (h2 rfl).run Q s1 fun G2 H2 e2 s2 => q G2 H2 (e1.trans e2) s2
  | true => exact q G1 H1 e1 s1⟩
theorem et_not {t : TT} {a : Bool} (h1 : EvT t ρ a) : EvT (tNot t) ρ (!a) := ⟨fun Q s q => h1.run _ s fun G1 H1 e1 s1 => q G1 H1 e1 s1⟩
theorem EvT.is {t : TT} {a b : Bool} (h : EvT t ρ a) (e : a = b) : EvT t ρ b := by rw [← e]; exact h
/-- a < b < c -/
theorem ev_chain {r r' : R2} {tc : TE} {Bc : Bw} {a b : Bool} (ha : Ev ta ρ Ba) (hb : Ev tb ρ Bb) (hc : a = true → Ev tc ρ Bc) (h : Op2 r Ba Bb (dB a)) (h' : a = true → Op2 r' Bb Bc (dB b)) : Ev (tChain r r' ta tb tc) ρ (pu (dB (a && b))) := Ev.pure fun Q s q =>
  ha.run _ s fun G1 H1 x e1 s1 rx => hb.run _ s1 fun G2 H2 y e2 s2 ry => by
    obtain ⟨L, sa, sb⟩ := id s2
    refine h G2 H2 _ x y _ sb (rx G2 L H2 e2 sa sb) (ry G2 L H2 (Same.refl _) sa sb) fun z rz => ?_
    cases rz
    refine ⟨a, rfl, ?_⟩
    cases a with
    | false => exact q G2 H2 _ (e1.trans e2) s2 (Dq.bl _)
    | true =>
      show tc _ _ _
      refine (hc rfl).run _ s2 fun G3 H3 w e3 s3 rw => ?_
      obtain ⟨L3, sa3, sb3⟩ := id s3
      exact h' rfl G3 H3 _ y w Q sb3 (ry G3 L3 H3 e3 sa3 sb3) (rw G3 L3 H3 (Same.refl _) sa3 sb3) fun v rv => q G3 H3 v ((e1.trans e2).trans e3) s3 (by cases rv; exact Dq.bl _)
theorem ev_andV {a b : Bool} (h1 : Ev ta ρ (pu (dB a))) (h2 : a = true → Ev tb ρ (pu (dB b))) : Ev (tAndV ta tb) ρ (pu (dB (a && b))) := Ev.pure fun Q s q => h1.atp s fun G1 H1 v e1 s1 r => by
  cases r
  refine ⟨a, rfl, ?_⟩
  cases a with
  | true => exact (h2 rfl).atp s1 fun G2 H2 v e2 s2 r2 => q G2 H2 v (e1.trans e2) s2 r2
  | false => exact q G1 H1 _ e1 s1 (Dq.bl _)
theorem ev_orV {a b : Bool} (h1 : Ev ta ρ (pu (dB a))) (h2 : a = false → Ev tb ρ (pu (dB b))) : Ev (tOrV ta tb) ρ (pu (dB (a || b))) := Ev.pure fun Q s q => h1.atp s fun G1 H1 v e1 s1 r => by
  cases r
  refine ⟨a, rfl, ?_⟩
  cases a with
  | false => exact (h2 rfl).atp s1 fun G2 H2 v e2 s2 r2 => q G2 H2 v (e1.trans e2) s2 r2
  | true => exact q G1 H1 _ e1 s1 (Dq.bl _)
theorem ev_notV {a : Bool} (h1 : Ev ta ρ (pu (dB a))) : Ev (tNotV ta) ρ (pu (dB (!a))) := Ev.pure fun Q s q => h1.atp s fun G1 H1 v e1 s1 r => by
  cases r
  exact ⟨a, rfl, q G1 H1 _ e1 s1 (Dq.bl _)⟩
theorem ev_if {t : TT} {b : Bool} (h : EvT t ρ b) (h1 : b = true → Ev ta ρ B) (h2 : b = false → Ev tb ρ B) : Ev (tIf t ta tb) ρ B := ⟨fun Q s q => h.run _ s fun G1 H1 e1 s1 => by
  cases b with
  | true => exact (h1 rfl).run Q s1 fun G2 H2 v e2 s2 r2 => q G2 H2 v (e1.trans e2) s2 r2
  | false => exact (h2 rfl).run Q s1 fun G2 H2 v e2 s2 r2 => q G2 H2 v (e1.trans e2) s2 r2⟩
/-! arguments, displays -/
theorem ea_nil : EvA tNil ρ [] := ⟨fun Q s q => q _ _ _ (Same.refl _) s fun _ _ _ _ _ _ => .nil⟩
theorem ea_cons {tr : TA} {Bs : List Bw} (h : Ev te ρ B) (hr : EvA tr ρ Bs) : EvA (tCons te tr) ρ (B :: Bs) := ⟨fun Q s q =>
  h.run _ s fun G1 H1 v e1 s1 r1 => hr.run _ s1 fun G2 H2 vs e2 s2 r2 => q G2 H2 (v :: vs) (e1.trans e2) s2 fun G3 L3 H3 e3 a b => .cons (r1 G3 L3 H3 (e2.trans e3) a b) (r2 G3 L3 H3 e3 a b)⟩
theorem EvA.at {tr : TA} {Bs : List Bw} (h : EvA tr ρ Bs) {G : Hp} {σ : L2.St} {L0 : List Cell} {H : Hp} {Q : List V → Hp → Prop} (s : Stt G ρ σ L0 H)
    (q : ∀ G' H' vs L, Same G G' → Slots G' L0 σ ρ L → Lay G' (L ++ L0) H' → AllB G' (L ++ L0) vs Bs → Q vs H') : tr σ H Q :=
  h.run _ s fun G' H' vs e s' r => by
    obtain ⟨L, a, b⟩ := id s'
    exact q G' H' vs L e a b (r G' L H' (Same.refl _) a b)
theorem allB_dat {G : Hp} {L : List Cell} : ∀ {vs : List V} {ds : List PyData}, AllB G L vs (ds.map fun d => pu (dat d)) → DqAll G vs ds
  | _, [], .nil => .nil
  | _, d :: ds, .cons h t => .cons h (allB_dat t)
theorem ev_tup {ta : TA} {ds : List PyData} (h : EvA ta ρ (ds.map fun d => pu (dat d))) (hl : ds.length ≤ 1000) : Ev (tTup ta) ρ (pu (dat (.tuple ds))) := Ev.pure fun Q s q =>
  h.at s fun G1 H1 vs L e1 a b r => by
    have d := allB_dat r
    refine ⟨by rw [dpAll_len d]; exact Nat.le_of_lt (small1000 hl), fun p hp => ?_⟩
    have g := Stt.grow ⟨L, a, b⟩ (o := .tup vs) hp
    exact q _ _ _ (e1.trans g.1) g.2 (Dq.tup upd_same (dpAll_up g.1 d))
theorem en_lst {ta : TA} {ds : List PyData} (h : EvA ta ρ (ds.map fun d => pu (dat d))) (hl : ds.length ≤ 1000) : EvN (tLst ta) ρ ds := ⟨fun Q s q =>
  h.at s fun G1 H1 vs L e1 a b r => by
    have d := allB_dat r
    exact ⟨by rw [dpAll_len d]; exact Nat.le_of_lt (small1000 hl), fun p hp => q G1 H1 p vs e1 ⟨L, a, b⟩ hp d⟩⟩
/-- a builtin's call -/
def Cl (r : List V → Hp → VK → Prop) (Bs : List Bw) (R : Rp) : Prop := ∀ (G H : Hp) (L : List Cell) (vs : List V) (Q : VK), Lay G L H → AllB G L vs Bs → (∀ v, R.p G v → Q v H) → r vs H Q
theorem ev_cb {r : List V → Hp → VK → Prop} {ta : TA} {Bs : List Bw} (h : EvA ta ρ Bs) (hr : Cl r Bs R) : Ev (tCB r ta) ρ (pu R) := Ev.pure fun Q s q =>
  h.at s fun G1 H1 vs L e1 a b rv => hr G1 H1 _ vs Q b rv fun v r => q G1 H1 v e1 ⟨L, a, b⟩ r
def ClN (r : List V → Hp → VK → Prop) (Bs : List Bw) (ds : List PyData) : Prop := ∀ (G H : Hp) (L : List Cell) (vs : List V) (Q : VK), Lay G L H → AllB G L vs Bs → (∀ p ws, H p = none → DqAll G ws ds → Q (.ref p) (upd H p (.lst ws))) → r vs H Q
theorem en_cb {r : List V → Hp → VK → Prop} {ta : TA} {Bs : List Bw} {ds : List PyData} (h : EvA ta ρ Bs) (hr : ClN r Bs ds) : EvN (tCB r ta) ρ ds := ⟨fun Q s q =>
  h.at s fun G1 H1 vs L e1 a b rv => hr G1 H1 _ vs Q b rv fun p ws hp d => q G1 H1 p ws e1 ⟨L, a, b⟩ hp d⟩
end
end Z

set_option Elab.async false
set_option linter.all false
set_option maxRecDepth 100000
set_option maxHeartbeats 2000000
/-! Zc: statements, targets, loops, comprehensions. -/
namespace Z
open PySem PySem.Spec PyProof.Rows L2
/-! ### what a statement ends in -/
inductive Out where
  | nx (ρ : List Sl) | rt (R : Rp) | ro (O : Op) | bk (ρ : List Sl) | ct (ρ : List Sl) | go (ρ : List Sl) | xc (ρ : List Sl) (C : Addr) (n : Int)
def Nx (N : L2.St → Hp → Prop) (G : Hp) (L0 : List Cell) (ρ : List Sl) : Prop := ∀ G' σ' H', Same G G' → Stt G' ρ σ' L0 H' → N σ' H'
/-- an error's own dict -/
def atF (n : Int) : HO := .xd [(("at" : Str), V.int n)]
def Post (W : WX) (D : Ends) (G : Hp) (L0 : List Cell) : Out → Prop
  | .nx ρ => Nx D.nx G L0 ρ
  | .bk ρ => Nx D.bk G L0 ρ
  | .ct ρ => Nx D.ct G L0 ρ
  | .go ρ => Nx D.nx G L0 ρ ∧ Nx D.ct G L0 ρ
  | .rt R => ∀ G' ρ' σ' H' v, Same G G' → Stt G' ρ' σ' L0 H' → R.p G' v → D.rt v H'
  | .ro O => ∀ G' H' a cs, Same G G' → Lay G' (cs ++ L0) H' → O.p G' a cs → D.rt (.ref a) H'
  | .xc ρ C n => ∀ G' σ' H' d, Same G G' → Stt G' ρ σ' L0 H' → H' d = none → W (.ref C) (some d) σ' (upd H' d (atF n))
theorem Post.mono {W : WX} {D : Ends} {G G1 : Hp} {L0 : List Cell} {o : Out} (e : Same G G1) (h : Post W D G L0 o) : Post W D G1 L0 o := by
  cases o with
  | nx ρ => exact fun G' σ' H' e' s => h G' σ' H' (e.trans e') s
  | bk ρ => exact fun G' σ' H' e' s => h G' σ' H' (e.trans e') s
  | ct ρ => exact fun G' σ' H' e' s => h G' σ' H' (e.trans e') s
  | go ρ => exact ⟨fun G' σ' H' e' s => h.1 G' σ' H' (e.trans e') s, fun G' σ' H' e' s => h.2 G' σ' H' (e.trans e') s⟩
  | rt R => exact fun G' ρ' σ' H' v e' s r => h G' ρ' σ' H' v (e.trans e') s r
  | ro O => exact fun G' H' a cs e' l r => h G' H' a cs (e.trans e') l r
  | xc ρ C n => exact fun G' σ' H' d e' s r => h G' σ' H' d (e.trans e') s r
structure Ex (W : WX) (ts : TS) (ρ : List Sl) (o : Out) : Prop where
  run : ∀ {G : Hp} {σ : L2.St} {L0 : List Cell} {H : Hp} (D : Ends), Stt G ρ σ L0 H → Post W D G L0 o → ts D σ H
/-- storing at a target: what slots it touches, T -/
structure EvG (g : TG) (T : List Nat) (ρ : List Sl) (R : Rp) (ρ' : List Sl) : Prop where
  run : ∀ {G : Hp} {σ : L2.St} {L0 : List Cell} {H : Hp} (v : V) (Q : L2.St → Hp → Prop), Stt G ρ σ L0 H → R.p G v →
    (∀ G' σ' H', Same G G' → Stt G' ρ' σ' L0 H' → (∀ vs, (∀ i ∈ T, i ∈ vs) → wipe σ' vs = wipe σ vs) → Q σ' H') → g v σ H Q
structure EvGs (g : TGs) (T : List Nat) (ρ : List Sl) (ds : List PyData) (ρ' : List Sl) : Prop where
  run : ∀ {G : Hp} {σ : L2.St} {L0 : List Cell} {H : Hp} (vs : List V) (Q : L2.St → Hp → Prop), Stt G ρ σ L0 H → DqAll G vs ds →
    (∀ G' σ' H', Same G G' → Stt G' ρ' σ' L0 H' → (∀ vs, (∀ i ∈ T, i ∈ vs) → wipe σ' vs = wipe σ vs) → Q σ' H') → g vs σ H Q
theorem wipe_get (σ : L2.St) (j : Nat) : ∀ vs : List Nat, (wipe σ vs)[j]? = if j ∈ vs then (σ[j]?).map (fun _ => none) else σ[j]?
  | [] => by simp [wipe]
  | v :: vs => by
    show ((wipe σ vs).set v none)[j]? = _
    rw [List.getElem?_set, wipe_length, wipe_get σ j vs]
    by_cases hv : v = j
    · subst hv
      rw [if_pos rfl, if_pos (List.mem_cons_self ..)]
      by_cases hl : v < σ.length
      · rw [if_pos hl, List.getElem?_eq_getElem hl]; rfl
      · rw [if_neg hl, List.getElem?_eq_none (by omega)]; rfl
    · rw [if_neg hv]
      have e : (j ∈ v :: vs) = (j ∈ vs) := by
        rw [List.mem_cons]
        exact propext ⟨fun z => z.elim (fun q => absurd q.symm hv) id, Or.inr⟩
      by_cases hj : j ∈ vs
      · rw [if_pos hj, if_pos (List.mem_cons_of_mem _ hj)]
      · rw [if_neg hj, if_neg (by rw [e]; exact hj)]
theorem wipe_set {σ : L2.St} {i : Nat} {x : Option V} {vs : List Nat} (h : i ∈ vs) : wipe (σ.set i x) vs = wipe σ vs := by
  apply List.ext_getElem?
  intro j
  rw [wipe_get, wipe_get]
  by_cases hj : i = j
  · subst hj
    rw [if_pos h, if_pos h, List.getElem?_set]
    by_cases hl : i < σ.length
    · rw [if_pos rfl, if_pos hl, List.getElem?_eq_getElem hl]; rfl
    · rw [if_pos rfl, if_neg hl, List.getElem?_eq_none (by omega)]
  · rw [List.getElem?_set_ne hj]
section
variable {K : PySem.W.Frag} {W : WX} {ρ ρ' ρ1 : List Sl} {te ta tb : TE} {t u : TS} {R : Rp} {B : Bw} {o : Out} {i : Nat}
theorem Ex.next : Ex W tNext ρ (.nx ρ) := ⟨fun D s q => q _ _ _ (Same.refl _) s⟩
theorem Ex.break_ : Ex W tBreak ρ (.bk ρ) := ⟨fun D s q => q _ _ _ (Same.refl _) s⟩
theorem Ex.cont : Ex W tCont ρ (.ct ρ) := ⟨fun D s q => q _ _ _ (Same.refl _) s⟩
theorem Ex.go (h : Ex W t ρ (.nx ρ')) : Ex W t ρ (.go ρ') := ⟨fun D s q => h.run D s q.1⟩
theorem Ex.goc (h : Ex W t ρ (.ct ρ')) : Ex W t ρ (.go ρ') := ⟨fun D s q => h.run D s q.2⟩
theorem Ex.is {o' : Out} (h : Ex W t ρ o) (e : o = o') : Ex W t ρ o' := by rw [← e]; exact h
theorem Ex.of {ρ'} (e : ρ' = ρ) (h : Ex W t ρ' o) : Ex W t ρ o := by rw [← e]; exact h
theorem Nx.weak {N : L2.St → Hp → Prop} {G : Hp} {L0 : List Cell} (w : Wk ρ ρ') (h : Nx N G L0 ρ') : Nx N G L0 ρ := fun G' σ' H' e s => by
  obtain ⟨G2, e2, s2⟩ := s.weak w
  exact h G2 σ' H' (e.trans e2) s2
/-- told less ahead -/
theorem Ex.weak (w : Wk ρ ρ') (h : Ex W t ρ' o) : Ex W t ρ o := ⟨fun D s q => by
  obtain ⟨G2, e2, s2⟩ := s.weak w
  exact h.run D s2 (q.mono e2)⟩
theorem Ex.out (w : Wk ρ' ρ1) (h : Ex W t ρ (.nx ρ')) : Ex W t ρ (.nx ρ1) := ⟨fun D s q => h.run D s (Nx.weak w q)⟩
theorem Ex.goout (w : Wk ρ' ρ1) (h : Ex W t ρ (.go ρ')) : Ex W t ρ (.go ρ1) := ⟨fun D s q => h.run D s ⟨Nx.weak w q.1, Nx.weak w q.2⟩⟩
theorem Ex.seq (h : Ex W t ρ (.nx ρ1)) (k : Ex W u ρ1 o) : Ex W (tSeq t u) ρ o := ⟨fun D s q => h.run { D with nx := u D } s fun G' σ' H' e s' => k.run D s' (q.mono e)⟩
/-- an end that is not the next statement -/
def Out.ends : Out → Bool
  | .nx _ => false
  | .go _ => false
  | _ => true
theorem Ex.seqE (h : Ex W t ρ o) (k : o.ends = true) : Ex W (tSeq t u) ρ o := ⟨fun D s q => h.run { D with nx := u D } s (by
  cases o with
  | nx _ => cases k
  | go _ => cases k
  | bk _ => exact q
  | ct _ => exact q
  | rt _ => exact q
  | ro _ => exact q
  | xc _ _ _ => exact q)⟩
theorem Ex.ife {tc : TT} {b : Bool} (hc : EvT tc ρ b) (h1 : b = true → Ex W t ρ o) (h2 : b = false → Ex W u ρ o) : Ex W (tIfS tc t u) ρ o := ⟨fun D s q => hc.run _ s fun G1 H1 e1 s1 => by
  cases b with
  | true => exact (h1 rfl).run D s1 (q.mono e1)
  | false => exact (h2 rfl).run D s1 (q.mono e1)⟩
/-- an if whose two ways go their own ends -/
theorem Ex.ite {v : TS} {tc : TT} {b : Bool} (hc : EvT tc ρ b) (h1 : b = true → Ex W (tSeq t v) ρ o) (h2 : b = false → Ex W (tSeq u v) ρ o) : Ex W (tSeq (tIfS tc t u) v) ρ o := ⟨fun D s q => hc.run _ s fun G1 H1 e1 s1 => by
  cases b with
  | true => exact (h1 rfl).run D s1 (q.mono e1)
  | false => exact (h2 rfl).run D s1 (q.mono e1)⟩
theorem Ex.skip (h : Ex W u ρ o) : Ex W (tSeq tNext u) ρ o := Ex.seq Ex.next h
theorem Ex.set (h : Ev te ρ (pu R)) (i : Nat := i) : Ex W (tAsg te (gName i)) ρ (.nx (ρ.set i (.p R))) := ⟨fun D s q => h.atp s fun G' H' v e s' r => by
  obtain ⟨G2, e2, s2⟩ := s'.set_p r i
  exact q G2 _ H' (e.trans e2) s2⟩
theorem Ex.setN {ds : List PyData} (h : EvN te ρ ds) (hi : i < ρ.length) : Ex W (tAsg te (gName i)) ρ (.nx (ρ.set i (.o (oL ds)))) := ⟨fun D s q => h.run _ s fun G' H' p vs e s' hp d => by
  obtain ⟨G2, e2, s2⟩ := s'.set_o (O := oL ds) (a := p) (cs := [(p, .lst vs)]) (H' := upd H' p (.lst vs)) ⟨vs, rfl, d⟩ i hi (fun M l => l.cell hp)
  exact q G2 _ _ (e.trans e2) s2⟩
/-- an owned list is from now on data that stays -/
theorem Ex.freeze {ds : List PyData} (i : Nat) (hi : ρ[i]? = some (.o (oL ds))) (h : Ex W t (ρ.set i (.p (dat (.list ds)))) o) : Ex W t ρ o := ⟨fun {G σ L0 H} D s q => by
  obtain ⟨a, cs, e, ⟨vs, hcs, d⟩, hh, k1, k2⟩ := s.get_o hi
  subst hcs
  obtain ⟨G2, e2, s2⟩ := k2 (dat (.list ds)) fun G' e' hc => Dq.lst (hc (a, .lst vs) (List.mem_cons_self ..)) (dpAll_up e' d)
  exact h.run D s2 (q.mono e2)⟩
theorem Ex.ret (h : Ev te ρ (pu R)) : Ex W (tRet te) ρ (.rt R) := ⟨fun D s q => h.atp s fun G' H' v e s' r => q G' _ _ H' v e s' r⟩
theorem Ex.retN : Ex W tRetN ρ (.rt (dat .none)) := ⟨fun D s q => q _ _ _ _ _ (Same.refl _) s Dq.non⟩
theorem Ex.drop (h : Ev te ρ B) : Ex W (tDrop te) ρ (.nx ρ) := ⟨fun D s q => h.at s fun G' H' v L e s' _ _ _ => q G' _ H' e s'⟩
theorem Ex.asg {g : TG} {T : List Nat} (h : Ev te ρ (pu R)) (hg : EvG g T ρ R ρ') : Ex W (tAsg te g) ρ (.nx ρ') := ⟨fun D s q => h.atp s fun G' H' v e s' r => hg.run v _ s' r fun G2 σ2 H2 e2 s2 _ => q G2 σ2 H2 (e.trans e2) s2⟩
theorem eg_name : EvG (gName i) [i] ρ R (ρ.set i (.p R)) := ⟨fun v Q s r q => by
  obtain ⟨G2, e2, s2⟩ := s.set_p r i
  exact q G2 _ _ e2 s2 fun vs h => wipe_set (h i (List.mem_cons_self ..))⟩
theorem egs_nil : EvGs gNil [] ρ [] ρ := ⟨fun vs Q s r q => by
  cases r
  exact ⟨rfl, q _ _ _ (Same.refl _) s fun _ _ => rfl⟩⟩
theorem egs_cons {g : TG} {gs : TGs} {T U : List Nat} {d : PyData} {ds : List PyData} (h1 : EvG g T ρ (dat d) ρ1) (h2 : EvGs gs U ρ1 ds ρ') : EvGs (gCons g gs) (T ++ U) ρ (d :: ds) ρ' := ⟨fun vs Q s r q => by
  cases r with
  | cons r1 r2 =>
    exact ⟨_, _, rfl, h1.run _ _ s r1 fun G1 σ1 H1 e1 s1 w1 => h2.run _ _ s1 (dpAll_up e1 r2) fun G2 σ2 H2 e2 s2 w2 => q G2 σ2 H2 (e1.trans e2) s2 fun vs h =>
      (w2 vs fun i hi => h i (List.mem_append_right _ hi)).trans (w1 vs fun i hi => h i (List.mem_append_left _ hi))⟩⟩
theorem eg_tup {n : Nat} {gs : TGs} {T : List Nat} {ds : List PyData} (h : EvGs gs T ρ ds ρ') (hn : ds.length = n) : EvG (gTup K n gs) T ρ (dat (.tuple ds)) ρ' := ⟨fun v Q s r q => by
  have r : Dq _ v (.tuple ds) := r
  cases r with
  | tup a b => exact ⟨_, _, rfl, .inl (.inl (s.same _ _ a)), by rw [dpAll_len b]; exact hn, h.run _ Q s b q⟩⟩
/-! ### walks -/
/-- what a walk J yields where G stands: the data ds, one by one -/
structure Gives (J : It) (G0 : Hp) (L0 : List Cell) (ds : List PyData) : Prop where
  go : ∀ i G L H, Same G0 G → Lay G (L ++ L0) H → (h : i < ds.length) → J.go i H ∧ ∀ x H', J.yld i H x H' → ∃ G', Same G G' ∧ (∀ L, Lay G (L ++ L0) H → Lay G' (L ++ L0) H') ∧ Dq G' x ds[i]
  stop : ∀ i G L H, Same G0 G → Lay G (L ++ L0) H → ds.length ≤ i → J.stop i H
structure EvI (K : PySem.W.Frag) (wi : TI) (ρ : List Sl) (ds : List PyData) : Prop where
  run : ∀ {G : Hp} {σ : L2.St} {L0 : List Cell} {H : Hp} (Q : It → Hp → Prop), Stt G ρ σ L0 H →
    (∀ G' H' J, Same G G' → Stt G' ρ σ L0 H' → Gives J G' L0 ds → Q J H') → wi σ H Q
/-- a list that stays, or somebody else's -/
structure EvS (K : PySem.W.Frag) (te : TE) (ρ : List Sl) (ds : List PyData) : Prop where
  run : ∀ {G : Hp} {σ : L2.St} {L0 : List Cell} {H : Hp} (Q : VK), Stt G ρ σ L0 H →
    (∀ G' H' a vs, Same G G' → Stt G' ρ σ L0 H' → (∀ G'' L'' H'', Same G' G'' → Lay G'' (L'' ++ L0) H'' → SqL K H'' a vs) → DqAll G' vs ds → Q (.ref a) H') → te σ H Q
theorem Ev.s {ds : List PyData} (h : Ev te ρ (pu (dat (.list ds)))) : EvS K te ρ ds := ⟨fun Q s q => h.atp s fun G' H' v e s' r => by
  have r : Dq G' v (.list ds) := r
  cases r with
  | lst a b => exact q G' H' _ _ e s' (fun G'' L'' H'' e2 l => .inl (.inl (l.same _ _ (e2 _ _ a)))) b⟩
theorem es_b {ds : List PyData} (h : ρ[i]? = some (.b (bL ds))) : EvS K (tVar i) ρ ds := ⟨fun Q s q => by
  obtain ⟨v, e, r⟩ := s.get_b h
  obtain ⟨a, vs, rfl, hc, d⟩ := r
  exact ⟨_, e, q _ _ a vs (Same.refl _) s (fun G'' L'' H'' e2 l => .inl (.inl (hc.elim (fun z => l.same _ _ (e2 _ _ z)) fun z => (l.on _ (List.mem_append_right _ z)).1))) d⟩⟩
theorem ei_list {ds : List PyData} (h : EvS K te ρ ds) : EvI K (iList K te) ρ ds := ⟨fun Q s q => h.run _ s fun G' H' a vs e s' hc d => by
  obtain ⟨L, sl, la⟩ := id s'
  refine ⟨a, rfl, ⟨vs, hc _ _ _ (Same.refl _) la⟩, q G' H' _ e s' ⟨fun i G L H e2 l hi => ?_, fun i G L H e2 l hi => ?_⟩⟩
  · have hq := hc _ _ _ e2 l
    obtain ⟨v, hv, dv⟩ := dpAll_get d (List.getElem?_eq_getElem hi)
    refine ⟨⟨vs, v, hq, hv⟩, fun x H' y => ?_⟩
    obtain ⟨rfl, y⟩ := y
    have ex : x = v := Option.some.inj ((y vs hq).symm.trans hv)
    subst ex
    exact ⟨G, Same.refl _, fun L l => l, dp_up e2 dv⟩
  · exact ⟨vs, hc _ _ _ e2 l, by rw [dpAll_len d]; exact hi⟩⟩
/-- lo, lo + 1, .. -/
def irange (lo : Int) (n : Nat) : List PyData := (List.range n).map fun k => .int (lo + (k : Nat))
theorem irange_len (lo : Int) (n : Nat) : (irange lo n).length = n := by simp [irange]
theorem gives_range {G : Hp} {L0 : List Cell} {lo : Int} {n : Nat} : Gives (Itr lo n) G L0 (irange lo n) :=
  ⟨fun i G L H e l hi => ⟨by rw [irange_len] at hi; exact hi, fun x H' y => by
    obtain ⟨rfl, rfl⟩ := y
    refine ⟨G, Same.refl _, fun L l => l, ?_⟩
    have e : (irange lo n)[i] = .int (lo + (i : Nat)) := by simp [irange]
    rw [e]
    exact Dq.int _⟩, fun i G L H e l hi => by rw [irange_len] at hi; exact hi⟩
theorem ei_range1 {ta : TA} {n : Int} (h : EvA ta ρ [pu (dI n)]) (h1 : -(2 ^ 62) ≤ n) (h2 : n < 2 ^ 62) : EvI K (iRng1 ta) ρ (irange 0 n.toNat) := ⟨fun Q s q => h.at s fun G' H' vs L e a b r => by
  cases r with
  | cons r1 r2 =>
    cases r2; cases r1
    exact ⟨n, rfl, h1, h2, q G' H' _ e ⟨L, a, b⟩ gives_range⟩⟩
theorem ei_range2 {ta : TA} {m n : Int} (h : EvA ta ρ [pu (dI m), pu (dI n)]) (h1 : -(2 ^ 62) ≤ m) (h2 : m < 2 ^ 62) (h3 : -(2 ^ 62) ≤ n) (h4 : n < 2 ^ 62) : EvI K (iRng2 ta) ρ (irange m (n - m).toNat) := ⟨fun Q s q => h.at s fun G' H' vs L e a b r => by
  cases r with
  | cons r1 r2 =>
    cases r2 with
    | cons r2 r3 =>
      cases r3; cases r1; cases r2
      exact ⟨m, n, rfl, ⟨h1, h2, h3, h4⟩, q G' H' _ e ⟨L, a, b⟩ gives_range⟩⟩
theorem ei_enum {ds : List PyData} (h : EvS K te ρ ds) : EvI K (iEnum K (tCons te tNil)) ρ (ds.zipIdx.map fun p => .tuple [.int ((p.2 : Nat) : Int), p.1]) := ⟨fun Q s q => h.run _ s fun G' H' a vs e s' hc d => by
  obtain ⟨L, sl, la⟩ := id s'
  refine ⟨a, vs, rfl, hc _ _ _ (Same.refl _) la, q G' H' _ e s' ⟨fun i G L H e2 l hi => ?_, fun i G L H e2 l hi => ?_⟩⟩
  · have hi' : i < ds.length := by simpa using hi
    have hq := hc _ _ _ e2 l
    obtain ⟨v, hv, dv⟩ := dpAll_get d (List.getElem?_eq_getElem hi')
    refine ⟨⟨vs, v, hq, hv⟩, fun x H' y => ?_⟩
    obtain ⟨T, x2, rfl, hT, rfl, y⟩ := y
    have ex : x2 = v := Option.some.inj ((y vs hq).symm.trans hv)
    subst ex
    have g := same_upd (o := .tup [.int (i : Nat), x2]) (l.freshG hT)
    refine ⟨_, g, fun L l => l.grow hT, ?_⟩
    have e3 : (ds.zipIdx.map fun p => PyData.tuple [.int ((p.2 : Nat) : Int), p.1])[i] = .tuple [.int ((i : Nat) : Int), ds[i]] := by simp
    rw [e3]
    exact Dq.tup upd_same (.cons (.int _) (.cons (dp_up (e2.trans g) dv) .nil))
  · exact ⟨vs, hc _ _ _ e2 l, by rw [dpAll_len d]; simpa using hi⟩⟩
/-! ### loops -/
/-- one turn and the next; f s x: the next state, or the loop's end -/
def runF {α S : Type} (f : S → α → Sum S Out) : S → List α → Sum S Out
  | s, [] => .inl s
  | s, x :: xs => match f s x with
    | .inl s' => runF f s' xs
    | .inr o => .inr o
theorem runF_app {α S : Type} {f : S → α → Sum S Out} : ∀ {xs ys : List α} {s s' : S}, runF f s xs = .inl s' → runF f s (xs ++ ys) = runF f s' ys
  | [], _, _, _, h => by
    cases h
    rfl
  | x :: xs, ys, s, s', h => by
    show (match f s x with | .inl s' => runF f s' (xs ++ ys) | .inr o => .inr o) = _
    unfold runF at h
    cases q : f s x with
    | inl s1 =>
      rw [q] at h
      exact runF_app h
    | inr o =>
      rw [q] at h
      cases h
def unbk : Out → Out
  | .bk ρ => .nx ρ
  | o => o
def loopOut {S : Type} (E : S → List Sl) : Sum S Out → Out
  | .inl s => .nx (E s)
  | .inr o => unbk o
def turnOut {S : Type} (E : S → List Sl) : Sum S Out → Out
  | .inl s => .go (E s)
  | .inr o => o
/-- an end of a loop's turn that leaves the loop -/
def Out.leaves : Out → Bool
  | .rt _ => true
  | .ro _ => true
  | .bk _ => true
  | .xc _ _ _ => true
  | _ => false
theorem Ex.forF {α S : Type} {wi : TI} {g : TG} {tb : TS} {xs : List α} {en : α → PyData} {T : List Nat} {s0 : S} (E : S → List Sl) (f : S → α → Sum S Out) (hi : EvI K wi ρ (xs.map en)) (h0 : Wk ρ (E s0))
    (hb : ∀ pre x post s, xs = pre ++ x :: post → runF f s0 pre = .inl s → (∀ o, f s x = .inr o → o.leaves = true) ∧ ∃ T ρ1, EvG g T (E s) (dat (en x)) ρ1 ∧ Ex W tb ρ1 (turnOut E (f s x))) :
    Ex W (tFor wi g tb) ρ (loopOut E (runF f s0 xs)) := ⟨fun {G σ L0 H} D s q => hi.run _ s fun G1 H1 J e1 s1 gv => by
  obtain ⟨G2, e2, s2⟩ := s1.weak h0
  refine ⟨fun i m σ H => m = xs.length - i ∧ i ≤ xs.length ∧ ∃ s G', runF f s0 (xs.take i) = .inl s ∧ Same G2 G' ∧ Stt G' (E s) σ L0 H, ⟨xs.length, by simp, Nat.zero_le _, s0, G2, rfl, Same.refl _, s2⟩, ?_⟩
  rintro i m σ' H' ⟨rfl, hi, s', G', hr, e3, s3⟩
  obtain ⟨L3, sl3, la3⟩ := id s3
  have e13 : Same G1 G' := e2.trans e3
  by_cases hlt : i < xs.length
  · right
    have hx : xs[i]? = some xs[i] := List.getElem?_eq_getElem hlt
    have hsplit : xs = xs.take i ++ xs[i] :: xs.drop (i + 1) := by
      rw [List.getElem_cons_drop, List.take_append_drop]
    obtain ⟨hlv, T, ρ1, hg, hbody⟩ := hb _ _ _ s' hsplit hr
    obtain ⟨g1, g2⟩ := gv.go i G' L3 H' e13 la3 (by simpa using hlt)
    refine ⟨g1, fun σ'' H'' => ∃ s G', runF f s0 (xs.take (i + 1)) = .inl s ∧ Same G2 G' ∧ Stt G' (E s) σ'' L0 H'', fun σ'' H'' ⟨s, G'', a, b, c⟩ => ⟨xs.length - (i + 1), by omega, rfl, hlt, s, G'', a, b, c⟩, fun x H4 y => ?_⟩
    obtain ⟨G4, e4, l4, d4⟩ := g2 x H4 y
    have d4 : Dq G4 x (en xs[i]) := by simpa using d4
    have s4 : Stt G4 (E s') σ' L0 H4 := ⟨L3, sl3.up e4, l4 _ la3⟩
    refine hg.run x _ s4 d4 fun G5 σ5 H5 e5 s5 _ => ?_
    have e25 : Same G2 G5 := (e3.trans e4).trans e5
    refine hbody.run _ s5 ?_
    have htake : runF f s0 (xs.take (i + 1)) = runF f s' [xs[i]] := by
      rw [List.take_add_one, hx]
      exact runF_app hr
    cases hf : f s' xs[i] with
    | inl s6 =>
      have z : runF f s0 (xs.take (i + 1)) = .inl s6 := by
        rw [htake]
        show (match f s' xs[i] with | .inl s' => runF f s' [] | .inr o => .inr o) = _
        rw [hf]
        rfl
      have k : ∀ G6 σ6 H6, Same G5 G6 → Stt G6 (E s6) σ6 L0 H6 → ∃ s G', runF f s0 (xs.take (i + 1)) = .inl s ∧ Same G2 G' ∧ Stt G' (E s) σ6 L0 H6 := fun G6 σ6 H6 e6 st => ⟨s6, G6, z, e25.trans e6, st⟩
      exact ⟨k, k⟩
    | inr o =>
      have z : runF f s0 xs = .inr o := by
        rw [hsplit, runF_app hr]
        show (match f s' xs[i] with | .inl s' => runF f s' _ | .inr o => .inr o) = _
        rw [hf]
      rw [z] at q
      have q : Post W D G L0 (unbk o) := q
      have q := q.mono (e1.trans (e2.trans e25))
      have hl := hlv o hf
      cases o with
      | nx _ => cases hl
      | go _ => cases hl
      | ct _ => cases hl
      | bk _ => exact q
      | rt _ => exact q
      | ro _ => exact q
      | xc _ _ _ => exact q
  · left
    have e : i = xs.length := by omega
    subst e
    rw [List.take_length] at hr
    rw [hr] at q
    exact ⟨gv.stop _ G' L3 H' e13 la3 (by simp), q G' σ' H' (e1.trans e13) s3⟩⟩
/-- a loop that goes through: the state by the part taken -/
theorem Ex.for_ {α : Type} {wi : TI} {g : TG} {tb : TS} {xs : List α} {en : α → PyData} (E : List α → List Sl) (hi : EvI K wi ρ (xs.map en)) (h0 : Wk ρ (E []))
    (hb : ∀ pre x post, xs = pre ++ x :: post → ∃ T ρ1, EvG g T (E pre) (dat (en x)) ρ1 ∧ Ex W tb ρ1 (.go (E (pre ++ [x])))) :
    Ex W (tFor wi g tb) ρ (.nx (E xs)) := by
  have key : ∀ ys zs : List α, runF (fun (s : List α) x => (.inl (s ++ [x]) : Sum (List α) Out)) ys zs = .inl (ys ++ zs) := by
    intro ys zs
    induction zs generalizing ys with
    | nil => simp [runF]
    | cons z zs ih =>
      show runF _ (ys ++ [z]) zs = _
      rw [ih]
      simp
  have h := Ex.forF (W := W) (T := []) (s0 := ([] : List α)) (wi := wi) (g := g) (tb := tb) (xs := xs) (en := en) (ρ := ρ) E (fun s x => .inl (s ++ [x])) hi h0 (fun pre x post s e r => by
    rw [key] at r
    have r : [] ++ pre = s := Sum.inl.inj r
    rw [List.nil_append] at r
    subst r
    exact ⟨fun o z => (by cases z), hb pre x post e⟩)
  rw [key] at h
  exact h
end
end Z

set_option Elab.async false
set_option linter.all false
set_option maxRecDepth 100000
set_option maxHeartbeats 2000000
/-! Zd: comprehensions, lists changed, slices, calls of builtins. -/
namespace Z
open PySem PySem.Spec PyProof.Rows L2
theorem Slots.mono {G : Hp} {L0 L1 : List Cell} (h : ∀ c ∈ L0, c ∈ L1) : ∀ {σ ρ L}, Slots G L0 σ ρ L → Slots G L1 σ ρ L
  | _, _, _, .nil => .nil
  | _, _, _, .x s => .x (s.mono h)
  | _, _, _, .p q s => .p q (s.mono h)
  | _, _, _, .o q s => .o q (s.mono h)
  | _, _, _, .b q s => .b (Bw.up _ (Same.refl _) h q) (s.mono h)
/-- the new facts, the borrowed ones by the old frame -/
theorem Slots.mix {G G' : Hp} {L0 L1 : List Cell} (e : Same G G') : ∀ {σ ρ L L'}, Slots G L0 σ ρ L → Slots G' L1 σ ρ L' → Slots G' L0 σ ρ L'
  | _, _, _, _, .nil, .nil => .nil
  | _, _, _, _, .x s, .x s' => .x (s.mix e s')
  | _, _, _, _, .p _ s, .p q s' => .p q (s.mix e s')
  | _, _, _, _, .o _ s, .o q s' => .o q (s.mix e s')
  | _, _, _, _, .b q s, .b _ s' => .b (Bw.up _ e (fun _ z => z) q) (s.mix e s')
/-- slots that tell nothing may hold anything -/
theorem Slots.agree {G : Hp} {L0 : List Cell} : ∀ {σ : L2.St} {ρ : List Sl} {L} {σ' : L2.St}, Slots G L0 σ ρ L → σ'.length = σ.length → (∀ j : Nat, ρ[j]? ≠ some Sl.x → σ'[j]? = σ[j]?) → Slots G L0 σ' ρ L
  | _, _, _, [], .nil, _, _ => .nil
  | _, _, _, [], .x _, h, _ | _, _, _, [], .p _ _, h, _ | _, _, _, [], .o _ _, h, _ | _, _, _, [], .b _ _, h, _ => by simp at h
  | _, _, _, _ :: _, .nil, h, _ => by simp at h
  | _, _, _, v :: σ', .x s, h, k => .x (s.agree (by simpa using h) fun j hj => by simpa using k (j + 1) (by simpa using hj))
  | _, _, _, v :: σ', .p q s, h, k => by
    have e := k 0 (by simp)
    simp at e
    subst e
    exact .p q (s.agree (by simpa using h) fun j hj => by simpa using k (j + 1) (by simpa using hj))
  | _, _, _, v :: σ', .b q s, h, k => by
    have e := k 0 (by simp)
    simp at e
    subst e
    exact .b q (s.agree (by simpa using h) fun j hj => by simpa using k (j + 1) (by simpa using hj))
  | _, _, _, v :: σ', .o q s, h, k => by
    have e := k 0 (by simp)
    simp at e
    subst e
    exact .o q (s.agree (by simpa using h) fun j hj => by simpa using k (j + 1) (by simpa using hj))
/-- the slots vs tell nothing -/
def AllX (ρ : List Sl) : List Nat → Prop
  | [] => True
  | v :: vs => ρ[v]? = some Sl.x ∧ AllX ρ vs
theorem AllX.at {ρ : List Sl} : ∀ {vs : List Nat} {v : Nat}, AllX ρ vs → v ∈ vs → ρ[v]? = some Sl.x
  | [], _, _, h => by simp at h
  | w :: vs, v, ⟨h1, h2⟩, h => by
    rcases List.mem_cons.mp h with z | z
    · rw [z]; exact h1
    · exact h2.at z
theorem wipe_agree {ρ : List Sl} {σ : L2.St} {vs : List Nat} (h : AllX ρ vs) : ∀ j : Nat, ρ[j]? ≠ some Sl.x → (wipe σ vs)[j]? = σ[j]? := fun j hj => by
  rw [wipe_get]
  by_cases hm : j ∈ vs
  · exact absurd (h.at hm) hj
  · rw [if_neg hm]
theorem wipe_two {ρ : List Sl} {σ σ' : L2.St} {vs : List Nat} (h : AllX ρ vs) (e : wipe σ' vs = wipe σ vs) : ∀ j : Nat, ρ[j]? ≠ some Sl.x → σ'[j]? = σ[j]? := fun j hj => by
  rw [← wipe_agree (σ := σ') h j hj, e, wipe_agree h j hj]
theorem len_two {σ σ' : L2.St} {vs : List Nat} (e : wipe σ' vs = wipe σ vs) : σ'.length = σ.length := by
  have := congrArg List.length e
  rwa [wipe_length, wipe_length] at this
section
variable {K : PySem.W.Frag} {W : WX} {ρ ρ' ρ1 : List Sl} {te ta tb : TE} {t u : TS} {R : Rp} {B : Bw} {o : Out} {i : Nat}
theorem filt_take {α : Type} (p : α → Bool) {xs : List α} {i : Nat} {x : α} (h : xs[i]? = some x) : (xs.take (i + 1)).filter p = (xs.take i).filter p ++ (if p x = true then [x] else []) := by
  rw [List.take_add_one, h, List.filter_append]
  congr 1
  by_cases hp : p x = true
  · rw [if_pos hp]; simp [hp]
  · rw [if_neg hp]; simp [hp]
/-- [f x for x in xs if p x] -/
theorem en_lc {α : Type} {wi : TI} {g : TG} {tt : TT} {vs : List Nat} {xs : List α} {en f : α → PyData} {p : α → Bool} (hi : EvI K wi ρ (xs.map en)) (hx : AllX ρ vs) (hz : xs.length ≤ 100000)
    (hb : ∀ x ∈ xs, ∃ T ρ1, EvG g T ρ (dat (en x)) ρ1 ∧ (∀ i ∈ T, i ∈ vs) ∧ Wk ρ1 ρ ∧ EvT tt ρ1 (p x) ∧ (p x = true → Ev te ρ1 (pu (dat (f x))))) : EvN (tLc wi g tt te vs) ρ ((xs.filter p).map f) := ⟨fun {G σ L0 H} Q s q => hi.run _ s fun G1 H1 J e1 s1 gv D hD => by
  obtain ⟨L1, sl1, la1⟩ := id s1
  refine ⟨fun i m H => m = xs.length - i ∧ i ≤ xs.length ∧ ∃ G' ws L', Same G1 G' ∧ Slots G' L0 σ ρ L' ∧ Lay G' (L' ++ ((D, HO.lst ws) :: L0)) H ∧ DqAll G' ws (((xs.take i).filter p).map f), ⟨xs.length, by simp, Nat.zero_le _, G1, [], L1, Same.refl _, sl1, ?_, .nil⟩, ?_⟩
  · exact (la1.cell hD).perm List.perm_middle.symm
  rintro i m H2 ⟨rfl, hi, G2, ws, L2', e2, sl2, la2, d2⟩
  have la2' : Lay G2 ((L2' ++ [(D, HO.lst ws)]) ++ L0) H2 := by
    rw [List.append_assoc]
    exact la2
  by_cases hlt : i < xs.length
  · right
    have hxe : xs[i]? = some xs[i] := List.getElem?_eq_getElem hlt
    obtain ⟨g1, g2⟩ := gv.go i G2 _ H2 e2 la2' (by simpa using hlt)
    refine ⟨g1, fun H => ∃ G' ws L', Same G1 G' ∧ Slots G' L0 σ ρ L' ∧ Lay G' (L' ++ ((D, HO.lst ws) :: L0)) H ∧ DqAll G' ws (((xs.take (i + 1)).filter p).map f), fun H' ⟨G', ws, L', a, b, c, d⟩ => ⟨xs.length - (i + 1), by omega, rfl, hlt, G', ws, L', a, b, c, d⟩, fun x H3 y => ?_⟩
    obtain ⟨G3, e3, l3, d3⟩ := g2 x H3 y
    have d3 : Dq G3 x (en xs[i]) := by simpa using d3
    have la3 : Lay G3 (L2' ++ ((D, HO.lst ws) :: L0)) H3 := by
      have := l3 _ la2'
      rw [List.append_assoc] at this
      exact this
    obtain ⟨T, ρ1, hg, hT, hwk, ht, hf⟩ := hb xs[i] (List.getElem_mem hlt)
    have sw : Stt G3 ρ (wipe σ vs) ((D, HO.lst ws) :: L0) H3 := ⟨L2', ((sl2.up e3).mono fun c hc => List.mem_cons_of_mem _ hc).agree (wipe_length σ vs) (wipe_agree hx), la3⟩
    refine hg.run x _ sw d3 fun G4 σ4 H4 e4 s4 w4 => ?_
    have hw4 : wipe σ4 vs = wipe σ vs := by
      rw [w4 vs hT]
      apply List.ext_getElem?
      intro j
      rw [wipe_get, wipe_get]
      by_cases hj : j ∈ vs
      · simp only [if_pos hj]
        cases σ[j]? <;> rfl
      · simp only [if_neg hj]
    refine ⟨hw4, ?_⟩
    -- back to the outer slots
    have back : ∀ {G5 H5}, Same G3 G5 → Stt G5 ρ1 σ4 ((D, HO.lst ws) :: L0) H5 → ∃ G6 L6, Same G5 G6 ∧ Slots G6 L0 σ ρ L6 ∧ Lay G6 (L6 ++ ((D, HO.lst ws) :: L0)) H5 := fun {G5 H5} e5 s5 => by
      obtain ⟨G6, e6, L6, sl6, la6⟩ := s5.weak hwk
      have sl6' := sl6.agree (σ' := σ) (len_two hw4).symm fun j hj => (wipe_two hx hw4 j hj).symm
      exact ⟨G6, L6, e6, (sl2.up e3).mix (e5.trans e6) sl6', la6⟩
    refine ht.run _ s4 fun G5 H5 e5 s5 => ?_
    cases hp : p xs[i] with
    | true =>
      show te _ _ _
      refine (hf hp).atp s5 fun G6 H6 y e6 s6 r6 => ?_
      obtain ⟨G7, L7, e7, sl7, la7⟩ := back ((e4.trans e5).trans e6) s6
      have hc : H6 D = some (HO.lst ws) := (la7.on (D, HO.lst ws) (List.mem_append_right _ (List.mem_cons_self ..))).1
      have e27 : Same G2 G7 := e3.trans (((e4.trans e5).trans e6).trans e7)
      refine ⟨ws, hc, ?_, G7, ws ++ [y], L7, e2.trans e27, sl7, ?_, ?_⟩
      · rw [dpAll_len d2, List.length_map]
        have h1 : ((xs.take i).filter p).length ≤ (xs.take i).length := List.length_filter_le ..
        have h2 : (xs.take i).length ≤ i := by rw [List.length_take]; exact Nat.min_le_left ..
        exact Nat.lt_of_lt_of_le (by omega : _ < 100001) (by decide)
      · exact ((la7.perm List.perm_middle).store).perm List.perm_middle.symm
      · rw [filt_take p hxe, hp, if_pos rfl, List.map_append]
        exact dpAll_app (dpAll_up e27 d2) (.cons (dp_up e7 r6) .nil)
    | false =>
      show ∃ G' ws L', _
      obtain ⟨G7, L7, e7, sl7, la7⟩ := back (e4.trans e5) s5
      have e27 : Same G2 G7 := e3.trans ((e4.trans e5).trans e7)
      refine ⟨G7, ws, L7, e2.trans e27, sl7, la7, ?_⟩
      rw [filt_take p hxe, hp, if_neg Bool.false_ne_true, List.append_nil]
      exact dpAll_up e27 d2
  · left
    have ei : i = xs.length := by omega
    subst ei
    refine ⟨gv.stop _ G2 _ H2 e2 la2' (by simp), ?_⟩
    rw [List.take_length] at d2
    -- the list taken out again
    have la4 : Lay G2 ((D, HO.lst ws) :: (L2' ++ L0)) H2 := la2.perm List.perm_middle
    have hne := la4.ne
    have eH : H2 = upd (fun b => if b = D then none else H2 b) D (.lst ws) := by
      funext b
      by_cases hb : b = D
      · rw [hb, upd_same]; exact (la4.on _ (List.mem_cons_self ..)).1
      · rw [upd_ne hb, if_neg hb]
    have la5 : Lay G2 (L2' ++ L0) (fun b => if b = D then none else H2 b) := by
      refine ⟨fun b hb => ?_, fun c hc => ?_, ?_⟩
      · by_cases h : b = D
        · rw [h, if_pos rfl]; exact ((la4.on _ (List.mem_cons_self ..)).2).symm
        · rw [if_neg h]
          refine la4.off b fun c hc => ?_
          rcases List.mem_cons.mp hc with z | z
          · subst z; exact fun z => h z.symm
          · exact hb c z
      · rw [if_neg (hne c hc)]; exact la4.on c (List.mem_cons_of_mem _ hc)
      · have := la4.nd
        rw [List.map_cons, List.nodup_cons] at this
        exact this.2
    rw [eH]
    exact q G2 _ D ws (e1.trans e2) ⟨L2', sl2, la5⟩ (if_pos rfl) d2⟩
/-- without an if -/
theorem en_lc0 {α : Type} {wi : TI} {g : TG} {vs : List Nat} {xs : List α} {en f : α → PyData} (hi : EvI K wi ρ (xs.map en)) (hx : AllX ρ vs) (hz : xs.length ≤ 100000)
    (hb : ∀ x ∈ xs, ∃ T ρ1, EvG g T ρ (dat (en x)) ρ1 ∧ (∀ i ∈ T, i ∈ vs) ∧ Wk ρ1 ρ ∧ Ev te ρ1 (pu (dat (f x)))) : EvN (tLc wi g tYes te vs) ρ (xs.map f) := by
  have h := en_lc (p := fun _ => true) hi hx hz (tt := tYes) (g := g) (te := te) (f := f) fun x hxm => by
    obtain ⟨T, ρ1, h1, h2, h3, h4⟩ := hb x hxm
    exact ⟨T, ρ1, h1, h2, h3, ⟨fun Q s q => q _ _ (Same.refl _) s⟩, fun _ => h4⟩
  rw [List.filter_eq_self.mpr (fun _ _ => rfl)] at h
  exact h
/-! ### lists that change -/
theorem oL_cell {G : Hp} {a : Addr} {cs : List Cell} {ds : List PyData} (h : (oL ds).p G a cs) : ∃ vs, cs = [(a, HO.lst vs)] ∧ DqAll G vs ds := h
/-- x.append(e), x an owned list -/
theorem Ex.append {ds : List PyData} {d : PyData} {T : String} (hi : ρ[i]? = some (.o (oL ds))) (he : Ev te ρ (pu (dat d))) (hz : ds.length < 1000000) (hT : T = "list") : Ex W (tDrop (tBM K T rAppend (tVar i) (tCons te tNil))) ρ (.nx (ρ.set i (.o (oL (ds ++ [d]))))) := ⟨fun {G σ L0 H} D s q => by
  obtain ⟨a, cs, e, ⟨vs, hcs, hd⟩, hh, _⟩ := s.get_o hi
  subst hcs
  refine ⟨_, e, .inl ⟨hT, vs, .inl (.inl (hh _ (List.mem_cons_self ..)))⟩, ?_⟩
  refine he.atp s fun G1 H1 v e1 s1 r => ?_
  obtain ⟨a', cs', e', ⟨vs', hcs', hd'⟩, hh', k1, _⟩ := s1.get_o hi
  rw [e] at e'
  injection e' with e'; injection e' with e'; injection e' with e'
  subst e' hcs'
  refine ⟨a, vs', v, rfl, rfl, hh' _ (List.mem_cons_self ..), ?_, ?_⟩
  · rw [dpAll_len hd']; exact Nat.lt_trans hz (by decide)
  · exact q G1 _ _ e1 (k1 (oL (ds ++ [d])) [(a, .lst (vs' ++ [v]))] _ ⟨_, rfl, dpAll_app hd' (.cons r .nil)⟩ fun M l => l.store)⟩
/-- x[k] = e, x an owned list -/
theorem Ex.setitem {ds : List PyData} {d : PyData} {k : Int} {j : Nat} (hi : ρ[i]? = some (.o (oL ds))) (he : Ev te ρ (pu (dat d))) (hk : Ev ta ρ (pu (dI k))) (hj : ixN ds.length k = some j) : Ex W (tAsg te (gSub (tVar i) ta rSetL)) ρ (.nx (ρ.set i (.o (oL (ds.set j d))))) := ⟨fun {G σ L0 H} D s q => he.atp s fun G1 H1 v e1 s1 r => by
  obtain ⟨a, cs, e, _⟩ := s1.get_o hi
  refine ⟨_, e, ?_⟩
  refine hk.atp s1 fun G2 H2 w e2 s2 r2 => ?_
  cases r2
  obtain ⟨a', cs', e', ⟨vs', hcs', hd'⟩, hh', k1, _⟩ := s2.get_o hi
  rw [e] at e'
  injection e' with e'; injection e' with e'; injection e' with e'
  subst e' hcs'
  refine ⟨a, vs', k, j, rfl, rfl, hh' _ (List.mem_cons_self ..), by rw [dpAll_len hd']; exact hj, ?_⟩
  exact q G2 _ _ (e1.trans e2) (k1 (oL (ds.set j d)) [(a, .lst (vs'.set j v))] _ ⟨_, rfl, dpAll_set (dp_up e2 r) j hd'⟩ fun M l => l.store)⟩
/-- x op= e -/
theorem Ex.aug {r : R2} {Ra Rb : Rp} (hi : ρ[i]? = some (.p Ra)) (he : Ev te ρ (pu Rb)) (h : Op2 r (pu Ra) (pu Rb) R) : Ex W (tAug i te r) ρ (.nx (ρ.set i (.p R))) := ⟨fun {G σ L0 H} D s q => by
  obtain ⟨v, e, r1⟩ := s.get_p hi
  refine ⟨v, e, ?_⟩
  refine he.atp s fun G1 H1 w e1 s1 r2 => ?_
  obtain ⟨L, a, b⟩ := id s1
  refine h G1 H1 _ v w _ b (Ra.up e1 r1) r2 fun z rz => ?_
  obtain ⟨G2, e2, s2⟩ := s1.set_p rz i
  exact q G2 _ _ (e1.trans e2) s2⟩
/-! ### slices, + and * -/
structure EvO (to : TO) (ρ : List Sl) (k : Option Int) : Prop where
  run : ∀ {G : Hp} {σ : L2.St} {L0 : List Cell} {H : Hp} (Q : Option Int → Hp → Prop), Stt G ρ σ L0 H → (∀ G' H', Same G G' → Stt G' ρ σ L0 H' → Q k H') → to σ H Q
theorem eo_none : EvO tNoPart ρ none := ⟨fun Q s q => q _ _ (Same.refl _) s⟩
theorem eo_some {k : Int} (h : Ev te ρ (pu (dI k))) : EvO (tPart te) ρ (some k) := ⟨fun Q s q => h.atp s fun G' H' v e s' r => by
  cases r
  exact ⟨k, rfl, q _ _ e s'⟩⟩
def cutD (ds : List PyData) (lo hi : Option Int) : List PyData := (ds.drop (HT.sIx ds.length 0 lo)).take (HT.sIx ds.length ds.length hi - HT.sIx ds.length 0 lo)
theorem cut_all {G : Hp} {vs : List V} {ds : List PyData} (h : DqAll G vs ds) (lo hi : Option Int) : DqAll G (cutV vs lo hi) (cutD ds lo hi) := by
  unfold cutV cutD
  rw [dpAll_len h]
  exact dpAll_take _ (dpAll_drop _ h)
theorem en_sl {tl th : TO} {ds : List PyData} {lo hi : Option Int} (h : Ev te ρ (bL ds)) (h1 : EvO tl ρ lo) (h2 : EvO th ρ hi) : EvN (tSl (rSlL K) te tl th) ρ (cutD ds lo hi) := ⟨fun Q s q =>
  h.run _ s fun G1 H1 v e1 s1 r => h1.run _ s1 fun G2 H2 e2 s2 => h2.run _ s2 fun G3 H3 e3 s3 => by
    obtain ⟨L, a, b⟩ := id s3
    obtain ⟨p, vs, rfl, hv, d⟩ := bl_sq b (r G3 L H3 (e2.trans e3) a b)
    exact ⟨p, vs, rfl, .inl (.inl hv), fun n hn => q G3 H3 n _ ((e1.trans e2).trans e3) s3 hn (cut_all d lo hi)⟩⟩
theorem ev_slT {tl th : TO} {ds : List PyData} {lo hi : Option Int} (h : Ev te ρ (pu (dat (.tuple ds)))) (h1 : EvO tl ρ lo) (h2 : EvO th ρ hi) (hn : ¬ (HT.sIx ds.length 0 lo = 0 ∧ HT.sIx ds.length ds.length hi = ds.length)) : Ev (tSl (rSlT K) te tl th) ρ (pu (dat (.tuple (cutD ds lo hi)))) := Ev.pure fun Q s q =>
  h.run _ s fun G1 H1 v e1 s1 r => h1.run _ s1 fun G2 H2 e2 s2 => h2.run _ s2 fun G3 H3 e3 s3 => by
    obtain ⟨L, a, b⟩ := id s3
    have r : Dq G3 v (.tuple ds) := r G3 L H3 (e2.trans e3) a b
    cases r with
    | @tup _ xs _ hv d =>
      refine ⟨_, _, rfl, .inl (.inl (b.same _ _ hv)), by rw [dpAll_len d]; exact hn, fun n hn => ?_⟩
      have g := s3.grow (o := .tup (cutV xs lo hi)) hn
      exact q _ _ _ (((e1.trans e2).trans e3).trans g.1) g.2 (Dq.tup upd_same (dpAll_up g.1 (cut_all d lo hi)))
theorem o_cat {ds es : List PyData} (hz : ds.length + es.length ≤ 1000000) : Op2N rCat (bL ds) (bL es) (ds ++ es) := fun G H L x y Q l hx hy q => by
  obtain ⟨a, vs, rfl, h, d⟩ := bl_sq l hx
  obtain ⟨b, ws, rfl, k, e⟩ := bl_sq l hy
  exact ⟨a, b, vs, ws, rfl, rfl, h, k, by rw [dpAll_len d, dpAll_len e]; exact Nat.le_trans hz (by decide), fun p hp => q p _ hp (dpAll_app d e)⟩
theorem o_rep {ds : List PyData} {k : Int} (hz : ds.length * k.toNat ≤ 1000000) (h1 : -(2 ^ 63) ≤ k) (h2 : k < 2 ^ 63) : Op2N rRep (bL ds) (pu (dI k)) (List.replicate k.toNat ds).flatten := fun G H L x y Q l hx hy q => by
  obtain ⟨a, vs, rfl, h, d⟩ := bl_sq l hx
  cases hy
  exact ⟨a, k, vs, rfl, rfl, h, h1, h2, by rw [dpAll_len d]; exact Nat.le_trans hz (by decide), fun p hp => q p _ hp (dpAll_rep _ d)⟩
/-! ### builtins -/
abbrev cLen (K : PySem.W.Frag) : List V → Hp → VK → Prop := fun xs H Q => ∃ p ys, xs = [.ref p] ∧ (SqL K H p ys ∨ SqT K H p ys) ∧ Q (.int ys.length) H
theorem cl_len {ds : List PyData} : Cl (cLen K) [bL ds] (dI ds.length) := fun G H L vs Q l r q => by
  cases r with
  | cons h t =>
    cases t
    obtain ⟨a, ws, rfl, hv, d⟩ := bl_sq l h
    refine ⟨a, ws, rfl, .inl (.inl (.inl hv)), q _ ?_⟩
    rw [dpAll_len d]
    exact Dq.int _
abbrev cList (K : PySem.W.Frag) : List V → Hp → VK → Prop := fun xs H Q => ∃ p ys, xs = [.ref p] ∧ (SqL K H p ys ∨ SqT K H p ys) ∧ ∀ l, H l = none → Q (.ref l) (upd H l (.lst ys))
theorem cl_list {ds : List PyData} : ClN (cList K) [bL ds] ds := fun G H L vs Q l r q => by
  cases r with
  | cons h t =>
    cases t
    obtain ⟨a, ws, rfl, hv, d⟩ := bl_sq l h
    exact ⟨a, ws, rfl, .inl (.inl (.inl hv)), fun p hp => q p ws hp d⟩
abbrev cAbs : List V → Hp → VK → Prop := fun xs H Q => ∃ i, xs = [.int i] ∧ Q (.int (if i < 0 then -i else i)) H
theorem cl_abs {n : Int} : Cl cAbs [pu (dI n)] (dI (if n < 0 then -n else n)) := fun G H L vs Q l r q => by
  cases r with
  | cons h t =>
    cases t; cases h
    exact ⟨n, rfl, q _ (Dq.int _)⟩
abbrev cMin2 : List V → Hp → VK → Prop := fun xs H Q => ∃ i j, xs = [.int i, .int j] ∧ Q (.int (if j < i then j else i)) H
theorem cl_min2 {m n : Int} : Cl cMin2 [pu (dI m), pu (dI n)] (dI (if n < m then n else m)) := fun G H L vs Q l r q => by
  cases r with
  | cons h t =>
    cases t with
    | cons h2 t =>
      cases t; cases h; cases h2
      exact ⟨m, n, rfl, q _ (Dq.int _)⟩
abbrev cMax2 : List V → Hp → VK → Prop := fun xs H Q => ∃ i j, xs = [.int i, .int j] ∧ Q (.int (if j > i then j else i)) H
theorem cl_max2 {m n : Int} : Cl cMax2 [pu (dI m), pu (dI n)] (dI (if n > m then n else m)) := fun G H L vs Q l r q => by
  cases r with
  | cons h t =>
    cases t with
    | cons h2 t =>
      cases t; cases h; cases h2
      exact ⟨m, n, rfl, q _ (Dq.int _)⟩
abbrev cInt : List V → Hp → VK → Prop := fun xs H Q => (∃ i, xs = [.int i] ∧ Q (.int i) H) ∨ ∃ k, xs = [.bl k] ∧ Q (.int (if k then 1 else 0)) H
theorem cl_int {n : Int} : Cl cInt [pu (dI n)] (dI n) := fun G H L vs Q l r q => by
  cases r with
  | cons h t =>
    cases t; cases h
    exact .inl ⟨n, rfl, q _ (Dq.int _)⟩
theorem cl_intB {b : Bool} : Cl cInt [pu (dB b)] (dI (if b then 1 else 0)) := fun G H L vs Q l r q => by
  cases r with
  | cons h t =>
    cases t; cases h
    exact .inr ⟨b, rfl, q _ (Dq.int _)⟩
theorem cl_sum {ns : List Int} : Cl (rSum K) [bL (ns.map PyData.int)] (dI ns.sum) := fun G H L vs Q l r q => by
  cases r with
  | cons h t =>
    cases t
    obtain ⟨a, ws, rfl, hv, d⟩ := bl_sq l h
    rw [dpAll_ints d] at hv
    exact ⟨a, ns, rfl, .inl (.inl hv), q _ (Dq.int _)⟩
theorem cl_any {bs : List Bool} : Cl (rAny K) [bL (bs.map PyData.bool)] (dB (bs.any id)) := fun G H L vs Q l r q => by
  cases r with
  | cons h t =>
    cases t
    obtain ⟨a, ws, rfl, hv, d⟩ := bl_sq l h
    rw [dpAll_bools d] at hv
    exact ⟨a, bs, rfl, .inl (.inl hv), q _ (Dq.bl _)⟩
theorem cl_all {bs : List Bool} : Cl (rAll K) [bL (bs.map PyData.bool)] (dB (bs.all id)) := fun G H L vs Q l r q => by
  cases r with
  | cons h t =>
    cases t
    obtain ⟨a, ws, rfl, hv, d⟩ := bl_sq l h
    rw [dpAll_bools d] at hv
    exact ⟨a, bs, rfl, .inl (.inl hv), q _ (Dq.bl _)⟩
/-! x in (a, b), x in [a, b]: ints -/
theorem flat_ints : ∀ ns : List Int, (ns.map V.int).all flatV = true
  | [] => rfl
  | n :: ns => by
    rw [List.map_cons, List.all_cons, flat_ints ns]; rfl
theorem inV_ints (n : Int) : ∀ ns : List Int, inV (.int n) (ns.map V.int) = decide (n ∈ ns)
  | [] => rfl
  | m :: ns => by
    show ((m :: ns).map V.int).any _ = _
    rw [List.map_cons, List.any_cons]
    have ih := inV_ints n ns
    unfold inV at ih
    rw [ih]
    have e : eqV (V.int m) (V.int n) = decide (n = m) := by
      show (m == n) = decide (n = m)
      by_cases h : m = n
      · subst h; simp
      · have h' : ¬ n = m := fun z => h z.symm
        simp [h, h']
    rw [e]
    by_cases h : n = m
    · simp [h]
    · simp [h]
theorem o_inT {n : Int} {ns : List Int} : Op2 (rIn K false) (pu (dI n)) (pu (dat (.tuple (ns.map PyData.int)))) (dB (decide (n ∈ ns))) := fun G H L x y Q l hx hy q => by
  cases hx
  have hy : Dq G y (.tuple (ns.map PyData.int)) := hy
  cases hy with
  | tup h d =>
    rw [dpAll_ints d] at h
    refine ⟨_, _, rfl, .inr (.inl (.inl (l.same _ _ h))), rfl, flat_ints ns, q _ ?_⟩
    show Dq G (.bl (inV _ _)) _
    rw [inV_ints]
    exact Dq.bl _
theorem o_inL {n : Int} {ns : List Int} : Op2 (rIn K false) (pu (dI n)) (bL (ns.map PyData.int)) (dB (decide (n ∈ ns))) := fun G H L x y Q l hx hy q => by
  cases hx
  obtain ⟨a, ws, rfl, hv, d⟩ := bl_sq l hy
  rw [dpAll_ints d] at hv
  refine ⟨_, _, rfl, .inl (.inl (.inl hv)), rfl, flat_ints ns, q _ ?_⟩
  show Dq G (.bl (inV _ _)) _
  rw [inV_ints]
  exact Dq.bl _
theorem o_notInL {n : Int} {ns : List Int} : Op2 (rIn K true) (pu (dI n)) (bL (ns.map PyData.int)) (dB (!decide (n ∈ ns))) := fun G H L x y Q l hx hy q => by
  cases hx
  obtain ⟨a, ws, rfl, hv, d⟩ := bl_sq l hy
  rw [dpAll_ints d] at hv
  refine ⟨_, _, rfl, .inl (.inl (.inl hv)), rfl, flat_ints ns, q _ ?_⟩
  show Dq G (.bl (!inV _ _)) _
  rw [inV_ints]
  exact Dq.bl _
/-- is None -/
def isNone : PyData → Bool
  | .none => true
  | _ => false
theorem o_isN {d : PyData} : Op2 (fun x y H Q => y = .non ∧ Q (.bl (decide (x = .non))) H) (pu (dat d)) (pu (dat .none)) (dB (isNone d)) := fun G H L x y Q l hx hy q => by
  have hx : Dq G x d := hx
  cases hy
  refine ⟨rfl, q _ ?_⟩
  cases hx <;> exact Dq.bl _
theorem o_notN {d : PyData} : Op2 (fun x y H Q => y = .non ∧ Q (.bl (!decide (x = .non))) H) (pu (dat d)) (pu (dat .none)) (dB (!isNone d)) := fun G H L x y Q l hx hy q => by
  have hx : Dq G x d := hx
  cases hy
  refine ⟨rfl, q _ ?_⟩
  cases hx <;> exact Dq.bl _
end
end Z

set_option Elab.async false
set_option linter.all false
set_option maxRecDepth 100000
set_option maxHeartbeats 2000000
/-! Ze: promises, calls, errors, instances. -/
namespace Z
open PySem PySem.Spec PyProof.Rows L2
/-! ### promises -/
inductive Res where
  | ok (R : Rp) | own (O : Op) | err (C : Addr) (n : Int)
def ResP (Q : VK) (E : XK) (G : Hp) (L : List Cell) : Res → Prop
  | .ok R => ∀ G' H' v, Same G G' → Lay G' L H' → R.p G' v → Q v H'
  | .own O => ∀ G' H' a cs, Same G G' → Lay G' (cs ++ L) H' → O.p G' a cs → Q (.ref a) H'
  | .err C n => ∀ G' H' d, Same G G' → Lay G' L H' → H' d = none → E (.ref C) (some d) (upd H' d (atF n))
/-- from arguments A x to the result R x, wherever pre x -/
def SpA {α : Type} (pre : α → Prop) (A : α → List Bw) (R : α → Res) : Sp := fun vs H Q E => ∃ x G L, pre x ∧ Lay G L H ∧ AllB G L vs (A x) ∧ ResP Q E G L (R x)
theorem allB_len {G : Hp} {L : List Cell} : ∀ {vs : List V} {Bs : List Bw}, AllB G L vs Bs → vs.length = Bs.length
  | _, _, .nil => rfl
  | _, _, .cons _ t => by simp [allB_len t]
theorem SpA.len {α : Type} {pre : α → Prop} {A : α → List Bw} {R : α → Res} {n : Nat} (h : ∀ x, (A x).length = n) : ∀ vs H Q E, SpA pre A R vs H Q E → vs.length = n := fun vs H Q E ⟨x, G, L, _, _, a, _⟩ => by
  rw [allB_len a, h]
/-- the slots at a def's start -/
def st0 (Bs : List Bw) (k : Nat) : List Sl := Bs.map Sl.b ++ List.replicate k Sl.x
def Res.out (ρ : List Sl) : Res → Out
  | .ok R => .rt R
  | .own O => .ro O
  | .err C n => .xc ρ C n
theorem slots_x {G : Hp} {L0 : List Cell} : ∀ k, Slots G L0 (List.replicate k none) (List.replicate k Sl.x) []
  | 0 => .nil
  | k + 1 => .x (slots_x k)
theorem slots_start {G : Hp} {L0 : List Cell} (k : Nat) : ∀ {vs : List V} {Bs : List Bw}, AllB G L0 vs Bs → Slots G L0 (vs.map some ++ List.replicate k none) (st0 Bs k) []
  | _, _, .nil => slots_x k
  | _, _, .cons h t => .b h (slots_start k t)
abbrev WofE (E : XK) : WX := fun cls d _ H => E cls d H
theorem SpA.run {α : Type} {pre : α → Prop} {A : α → List Bw} {R : α → Res} {vs : List V} {H : Hp} {Q : VK} {E : XK} {t : TS} {N : List Str} {m : Nat} (h : SpA pre A R vs H Q E) (hm : ∀ x, (A x).length = m)
    (hx : ∀ x, pre x → ∃ ρ, Ex (WofE E) t (st0 (A x) (N.length - m)) ((R x).out ρ)) : t { nx := fun _ H' => Q .non H', rt := Q } (L2.start N vs) H := by
  obtain ⟨x, G, L, hp, la, a, r⟩ := h
  obtain ⟨ρ, ex⟩ := hx x hp
  have hl : vs.length = m := by rw [allB_len a, hm]
  have sl := slots_start (N.length - m) a
  refine ex.run _ (show Stt G _ (L2.start N vs) L H from ⟨[], by unfold L2.start; rw [hl]; exact sl, la⟩) ?_
  cases hR : R x with
  | ok R' =>
    rw [hR] at r
    intro G' ρ' σ' H' v e s rv
    obtain ⟨G2, e2, l2⟩ := s.fin
    exact r G2 H' v (e.trans e2) l2 (R'.up e2 rv)
  | own O =>
    rw [hR] at r
    intro G' H' a cs e l ro
    exact r G' H' a cs e l ro
  | err C n =>
    rw [hR] at r
    intro G' σ' H' d e s hd
    obtain ⟨G2, e2, l2⟩ := s.fin
    exact r G2 H' d (e.trans e2) l2 hd
/-- a body that runs out: None -/
theorem SpA.runN {α : Type} {pre : α → Prop} {A : α → List Bw} {R : α → Res} {vs : List V} {H : Hp} {Q : VK} {E : XK} {t : TS} {N : List Str} {m : Nat} (h : SpA pre A R vs H Q E) (hm : ∀ x, (A x).length = m)
    (hx : ∀ x, pre x → ∃ ρ, (R x = .ok (dat .none) ∧ Ex (WofE E) t (st0 (A x) (N.length - m)) (.nx ρ)) ∨ Ex (WofE E) t (st0 (A x) (N.length - m)) ((R x).out ρ)) : t { nx := fun _ H' => Q .non H', rt := Q } (L2.start N vs) H := by
  obtain ⟨x, G, L, hp, la, a, r⟩ := h
  obtain ⟨ρ, ex⟩ := hx x hp
  rcases ex with ⟨hr, ex⟩ | ex
  · have hl : vs.length = m := by rw [allB_len a, hm]
    have sl := slots_start (N.length - m) a
    refine ex.run _ (show Stt G _ (L2.start N vs) L H from ⟨[], by unfold L2.start; rw [hl]; exact sl, la⟩) fun G' σ' H' e s => ?_
    rw [hr] at r
    obtain ⟨G2, e2, l2⟩ := s.fin
    exact r G2 H' .non (e.trans e2) l2 Dq.non
  · exact SpA.run (pre := fun y => y = x) (A := A) (R := R) (m := m) ⟨x, G, L, rfl, la, a, r⟩ hm fun y hy => ⟨ρ, by rw [hy]; exact ex⟩
section
variable {K : PySem.W.Frag} {W : WX} {ρ ρ' ρ1 : List Sl} {te ta tb : TE} {t u : TS} {tr : TA} {R : Rp} {B : Bw} {o : Out} {i : Nat} {α : Type} {pre : α → Prop} {A : α → List Bw} {F : α → Res} {E : XK} {C : Addr} {n : Int}
/-! ### calls -/
theorem ev_call (x : α) (ha : EvA tr ρ (A x)) (hp : pre x) (hR : F x = .ok R) : Ev (tCall (SpA pre A F) [] E tr) ρ (pu R) := Ev.pure fun {G σ L0 H} Q s q => ha.at s fun G1 H1 vs L e1 sl la r => by
  refine ⟨x, G1, L ++ L0, hp, la, by rw [List.append_nil]; exact r, ?_⟩
  rw [hR]
  exact fun G2 H2 v e2 l2 rv => q G2 H2 v (e1.trans e2) ⟨L, sl.up e2, l2⟩ rv
/-- a call that hands over a new list -/
theorem en_call {ds : List PyData} (x : α) (ha : EvA tr ρ (A x)) (hp : pre x) (hR : F x = .own (oL ds)) : EvN (tCall (SpA pre A F) [] E tr) ρ ds := ⟨fun {G σ L0 H} Q s q => ha.at s fun G1 H1 vs L e1 sl la r => by
  refine ⟨x, G1, L ++ L0, hp, la, by rw [List.append_nil]; exact r, ?_⟩
  rw [hR]
  intro G2 H2 a cs e2 l2 ro
  obtain ⟨ws, hcs, d⟩ := ro
  subst hcs
  have hne := l2.ne
  have eH : H2 = upd (fun b => if b = a then none else H2 b) a (.lst ws) := by
    funext b
    by_cases hb : b = a
    · rw [hb, upd_same]; exact (l2.on _ (List.mem_cons_self ..)).1
    · rw [upd_ne hb, if_neg hb]
  have l3 : Lay G2 (L ++ L0) (fun b => if b = a then none else H2 b) := by
    refine ⟨fun b hb => ?_, fun c hc => ?_, ?_⟩
    · by_cases h : b = a
      · rw [h, if_pos rfl]; exact ((l2.on _ (List.mem_cons_self ..)).2).symm
      · rw [if_neg h]
        refine l2.off b fun c hc => ?_
        rcases List.mem_cons.mp hc with z | z
        · subst z; exact fun z => h z.symm
        · exact hb c z
    · rw [if_neg (hne c hc)]; exact l2.on c (List.mem_cons_of_mem _ hc)
    · have := l2.nd
      rw [List.singleton_append, List.map_cons, List.nodup_cons] at this
      exact this.2
  rw [eH]
  exact q G2 _ a ws (e1.trans e2) ⟨L, sl.up e2, l3⟩ (if_pos rfl) d⟩
/-- an expression that raises -/
structure EvX (W : WX) (te : TE) (ρ : List Sl) (C : Addr) (n : Int) : Prop where
  run : ∀ {G : Hp} {σ : L2.St} {L0 : List Cell} {H : Hp} (Q : VK), Stt G ρ σ L0 H → (∀ G' H' d, Same G G' → Stt G' ρ σ L0 H' → H' d = none → W (.ref C) (some d) σ (upd H' d (atF n))) → te σ H Q
theorem ex_call (x : α) (ha : EvA tr ρ (A x)) (hp : pre x) (hR : F x = .err C n) : EvX (WofE E) (tCall (SpA pre A F) [] E tr) ρ C n := ⟨fun {G σ L0 H} Q s q => ha.at s fun G1 H1 vs L e1 sl la r => by
  refine ⟨x, G1, L ++ L0, hp, la, by rw [List.append_nil]; exact r, ?_⟩
  rw [hR]
  exact fun G2 H2 d e2 l2 hd => q G2 H2 d (e1.trans e2) ⟨L, sl.up e2, l2⟩ hd⟩
/-- in a try -/
theorem ev_callS {E : L2.St → XK} (x : α) (ha : EvA tr ρ (A x)) (hp : pre x) (hR : F x = .ok R) : Ev (tCallS (SpA pre A F) E tr) ρ (pu R) := Ev.pure fun {G σ L0 H} Q s q => ha.at s fun G1 H1 vs L e1 sl la r => by
  refine ⟨x, G1, L ++ L0, hp, la, r, ?_⟩
  rw [hR]
  exact fun G2 H2 v e2 l2 rv => q G2 H2 v (e1.trans e2) ⟨L, sl.up e2, l2⟩ rv
theorem ex_callS (x : α) (ha : EvA tr ρ (A x)) (hp : pre x) (hR : F x = .err C n) : EvX W (tCallS (SpA pre A F) (WE W) tr) ρ C n := ⟨fun {G σ L0 H} Q s q => ha.at s fun G1 H1 vs L e1 sl la r => by
  refine ⟨x, G1, L ++ L0, hp, la, r, ?_⟩
  rw [hR]
  exact fun G2 H2 d e2 l2 hd => q G2 H2 d (e1.trans e2) ⟨L, sl.up e2, l2⟩ hd⟩
theorem Ex.dropX (h : EvX W te ρ C n) : Ex W (tDrop te) ρ (.xc ρ C n) := ⟨fun D s q => h.run _ s fun G' H' d e s' hd => q G' _ H' d e s' hd⟩
theorem Ex.asgX {g : TG} (h : EvX W te ρ C n) : Ex W (tAsg te g) ρ (.xc ρ C n) := ⟨fun D s q => h.run _ s fun G' H' d e s' hd => q G' _ H' d e s' hd⟩
theorem Ex.retX (h : EvX W te ρ C n) : Ex W (tRet te) ρ (.xc ρ C n) := ⟨fun D s q => h.run _ s fun G' H' d e s' hd => q G' _ H' d e s' hd⟩
/-! ### errors with one field, at -/
/-- what __init__ of the errors promises -/
def spAt (K : PySem.W.Frag) : Sp := fun vs H Q _ => ∃ (a C : Addr) (n : Int), vs = [.ref a, .int n] ∧ OexC K C ∧ PySem.W.findIn K (.ref C) "at" = some none ∧ H a = some (exo a C none) ∧
  ∀ dx, H dx = none → dx ≠ a → Q .non (upd (upd H dx (exd dx [(("at" : Str), V.int n)])) a (exo a C (some dx)))
/-- self.at = at -/
theorem pure_at (vs : List V) (H : Hp) (Q : VK) (E : XK) (h : spAt K vs H Q E) : tOst K "at" (tVar 0) (tVar 1) { nx := fun _ H' => Q .non H', rt := Q } (L2.start ["self", "at"] vs) H := by
  obtain ⟨a, C, n, rfl, hC, hn, ha, q⟩ := h
  exact ⟨_, rfl, _, rfl, a, C, rfl, hC, hn, .inl ⟨ha, fun dx hd hne => q dx hd hne⟩⟩
/-- raise C(e) -/
theorem Ex.raise_ {tr : TA} (ha : EvA tr ρ [pu (dI n)]) (hC : OexC K C) (hn : PySem.W.findIn K (.ref C) "at" = some none) : Ex W (fun _ σ H => tMkO C (spAt K) [] tr σ H fun cls d H' => W cls d σ H') ρ (.xc ρ C n) := ⟨fun {G σ L0 H} D s q => ha.at s fun G1 H1 vs L e1 sl la r => by
  cases r with
  | cons h1 h2 =>
    cases h2; cases h1
    refine ⟨(by show 1 ≤ 1000; decide), fun a hA => ⟨a, C, n, rfl, hC, hn, upd_same, fun dx hd hne => ⟨rfl, dx, [(("at" : Str), V.int n)], upd_same, ?_, ?_, ?_⟩⟩⟩
    · rw [upd_ne hne, upd_same]
    · rw [upd_ne hne] at hd
      exact hd
    · rw [upd_ne hne] at hd
      have e : upd (del (upd (upd (upd H1 a (exo a C none)) dx (exd dx [(("at" : Str), V.int n)])) a (exo a C (some dx))) a) dx (.xd [(("at" : Str), V.int n)]) = upd H1 dx (atF n) := by
        funext b
        by_cases hb : b = dx
        · rw [hb, upd_same, upd_same]; rfl
        · rw [upd_ne hb, upd_ne hb]
          by_cases hba : b = a
          · rw [hba, del_same]; exact hA.symm
          · rw [del_ne hba, upd_ne hba, upd_ne hb, upd_ne hba]
      rw [e]
      exact q G1 σ H1 dx e1 ⟨L, sl, la⟩ hd⟩
/-! ### try .. except C as e -/
/-- the error that a suite holds: at a, its dict at d, its field -/
def errR (a d : Addr) (n : Int) : Rp := ⟨fun G v => v = .ref a ∧ G d = some (atF n), fun e h => ⟨h.1, e _ _ h.2⟩⟩
def noSlot (i : Nat) : Out → Out
  | .nx ρ => .nx (ρ.set i .x)
  | .bk ρ => .bk (ρ.set i .x)
  | .ct ρ => .ct (ρ.set i .x)
  | .go ρ => .go (ρ.set i .x)
  | o => o
theorem Stt.set_none {G H : Hp} {σ : L2.St} {L0 : List Cell} (s : Stt G ρ σ L0 H) (i : Nat) : ∃ G', Same G G' ∧ Stt G' (ρ.set i .x) (σ.set i none) L0 H := by
  have w : Wk ρ (ρ.set i .x) := by
    have : ∀ (ρ : List Sl) (i : Nat), Wk ρ (ρ.set i .x) := by
      intro ρ
      induction ρ with
      | nil => intro i; exact .nil
      | cons s ρ ih =>
        intro i
        cases i with
        | zero => exact .x (Wk.refl ρ)
        | succ i => exact .k (ih i)
    exact this ρ i
  obtain ⟨G', e, L, sl, la⟩ := s.weak w
  refine ⟨G', e, L, sl.agree (by simp) fun j hj => ?_, la⟩
  by_cases h : i = j
  · subst h
    by_cases hl : i < ρ.length
    · exact absurd (by simp [hl]) hj
    · have hlen : σ.length = ρ.length := s.len
      rw [List.getElem?_eq_none (by simp; omega), List.getElem?_eq_none (by omega)]
  · rw [List.getElem?_set_ne h]
end
end Z

set_option Elab.async false
set_option linter.all false
set_option maxRecDepth 100000
set_option maxHeartbeats 2000000
/-! Zf: try, what a suite asks of the error, instances, repr. -/
namespace Z
open PySem PySem.Spec PyProof.Rows L2
section
variable {K : PySem.W.Frag} {W : WX} {ρ ρ' ρ1 : List Sl} {te ta tb : TE} {t u : TS} {tr : TA} {R : Rp} {B : Bw} {o : Out} {i : Nat} {α : Type} {pre : α → Prop} {A : α → List Bw} {F : α → Res} {E : XK} {C : Addr} {n : Int}
def Out.quiet : Out → Bool
  | .xc _ _ _ => false
  | _ => true
theorem Post.anyW {W W' : WX} {D : Ends} {G : Hp} {L0 : List Cell} {o : Out} (h : o.quiet = true) (q : Post W D G L0 o) : Post W' D G L0 o := by
  cases o with
  | xc _ _ _ => cases h
  | nx _ => exact q
  | bk _ => exact q
  | ct _ => exact q
  | go _ => exact q
  | rt _ => exact q
  | ro _ => exact q
/-- the body raises nothing -/
theorem Ex.try_ok {c : Value} {ts : Addr → Value → Option Addr → TS} {tb : WX → TS} (h : ∀ W, Ex W (tb W) ρ o) (hq : o.quiet = true) : Ex W (fun D σ H => tb (wAs K c i ts W D) D σ H) ρ o :=
  ⟨fun D s q => (h _).run D s (q.anyW hq)⟩
theorem Post.slot {D : Ends} {G : Hp} {L0 : List Cell} (q : Post W D G L0 (noSlot i o)) : Post W { nx := fun σ' H' => D.nx (σ'.set i none) H', rt := D.rt, bk := fun σ' H' => D.bk (σ'.set i none) H', ct := fun σ' H' => D.ct (σ'.set i none) H' } G L0 o := by
  have key : ∀ {N : L2.St → Hp → Prop} {ρ : List Sl}, Nx N G L0 (ρ.set i .x) → Nx (fun σ' H' => N (σ'.set i none) H') G L0 ρ := fun {N ρ} k G' σ' H' e s => by
    obtain ⟨G2, e2, s2⟩ := s.set_none i
    exact k G2 _ H' (e.trans e2) s2
  cases o with
  | xc _ _ _ => exact q
  | nx _ => exact key q
  | bk _ => exact key q
  | ct _ => exact key q
  | go _ => exact ⟨key q.1, key q.2⟩
  | rt _ => exact q
  | ro _ => exact q
/-- the body raises an error of the class at C, which the clause takes -/
theorem Ex.try_x {c : Value} {ts : Addr → Value → Option Addr → TS} {tb : WX → TS} (h : ∀ W, Ex W (tb W) ρ (.xc ρ1 C n)) (hm : PySem.W.exmOne K (.ref C) c = some true)
    (hs : ∀ a d, Ex W (ts a (.ref C) (some d)) (ρ1.set i (.p (errR a d n))) o) : Ex W (fun D σ H => tb (wAs K c i ts W D) D σ H) ρ (noSlot i o) :=
  ⟨fun D s q => (h _).run D s fun G' σ' H' d e s' hd => ⟨true, hm, fun _ a ha => by
    have g := s'.grow (o := atF n) hd
    obtain ⟨G2, e2, s2⟩ := g.2.set_p (R := errR a d n) ⟨rfl, upd_same⟩ i
    exact (hs a d).run _ s2 (q.slot.mono ((e.trans g.1).trans e2)), fun z => nomatch z⟩⟩
/-! isinstance(e, C), e.at -/
/-- isinstance of the error that a suite holds, the class told in the reading -/
def rIsX (K : PySem.W.Frag) (a : Addr) (cls : Value) (d : Option Addr) : List V → Hp → VK → Prop := fun xs H Q => ∃ (C dd : Addr) (fs : List (Str × V)) (D : Addr) (b : Bool), cls = .ref C ∧ d = some dd ∧ ExcC K C ∧ H dd = some (.xd fs) ∧ xs = [.ref a, .ref D] ∧
  PySem.W.kitOne K (.ref C) (.ref D) = some b ∧ Q (.bl b) H
theorem call_isX {X : Cx} {a : Addr} {oe : Obj} {cls : Value} {d : Option Addr} {pn : List (Addr × Obj)} (hz : Zc cls d oe) (hf : ∃ vs, oe.data = .fields vs) : CallR (X.suite a ((a, oe) :: pn)) (.builtin "isinstance") (rIsX X.K a cls d) := by
  intro pins s σ H xs us Q inv r h
  obtain ⟨C, dd, fs, D, b, rfl, rfl, hC, hdd, rfl, hk, q⟩ := h
  cases r with
  | cons r1 r2 =>
    cases r2 with
    | cons r2 r3 =>
      cases r3; cases r1; cases r2
      have ho := (inv.pin (a, oe) (List.mem_append_left _ (List.mem_cons_self ..))).1
      obtain ⟨vs, hv⟩ := hf
      obtain ⟨mA, hns, _⟩ := (show ObjOk X.prog X.w H s.heap dd (.xd fs) from inv.hok dd _ hdd)
      obtain ⟨od, hod, _⟩ := lookIn_ns hns
      have inst : PySem.W.InstAt s.heap a oe C (some od) := ⟨ho, hz.1, by unfold PySem.W.notCls; rw [hv] <;> rfl, by rw [hz.2]; exact hod⟩
      have hcl : (PySem.W.clsIn X.K C).isSome = true := by
        have z := hC.hd
        unfold PySem.W.hasDictIn at z
        cases e : PySem.W.clsIn X.K C with
        | none => rw [e] at z; cases z
        | some _ => rfl
      exact PySem.W.kia_one (PySem.W.kitx_exc hcl hC.hg hC.hk hC.hs hC.ha hC.hn hC.ht hC.hm) inv.kIn inst hk (fun z => nomatch z) fun tk => ⟨.bl b, H, inv.kept (t' := tk) fun _ _ z => z, rfl, q⟩
/-- e.f of the error that a suite holds, its class told in the reading; e a name -/
def tXg (K : PySem.W.Frag) (a : Addr) (cls : Value) (d : Option Addr) (f : Str) (i : Nat) : TE := fun σ H Q => ∃ (C dd : Addr) (fs : List (Str × V)) (v : V), σ[i]? = some (some (.ref a)) ∧ cls = .ref C ∧ d = some dd ∧ XfC K C ∧
  PySem.W.findIn K (.ref C) f = some none ∧ H dd = some (.xd fs) ∧ fs.lookup f = some v ∧ Q v H
theorem pe_xg {X : Cx} {a : Addr} {oe : Obj} {cls : Value} {d : Option Addr} {pn : List (Addr × Obj)} {x n : Str} {i : Nat} {pos pos' : Pos} (hz : Zc cls d oe) (hf : ∃ vs, oe.data = .fields vs) (he : PE (X.suite a ((a, oe) :: pn)) (.Name x pos') (tVar i))
    (hb : attributeBase (.Name x pos') n X.env (eval (.Name x pos') X.env) = eval (.Name x pos') X.env := by rfl) : PE (X.suite a ((a, oe) :: pn)) (.Attribute (.Name x pos') n pos) (tXg X.K a cls d n i) := by
  refine ⟨fun pins s σ H Q inv h => ?_⟩
  obtain ⟨C, dd, fs, v, hs, rfl, rfl, hC, hno, hdd, hl, q⟩ := h
  exact (pe_xf (C := C) (n := n) hC hno hz hf he hb).run pins s σ H Q inv ⟨_, hs, rfl, rfl, dd, fs, v, rfl, hdd, hl, q⟩
theorem ev_at {a d : Addr} (hi : ρ[i]? = some (.p (errR a d n))) (hC : XfC K C) (hn : PySem.W.findIn K (.ref C) "at" = some none) : Ev (tXg K a (.ref C) (some d) "at" i) ρ (pu (dI n)) := Ev.pure fun {G σ L0 H} Q s q => by
  obtain ⟨v, e, rfl, hd⟩ := s.get_p hi
  refine ⟨C, d, _, .int n, e, rfl, rfl, hC, hn, s.same _ _ hd, by rfl, q _ _ _ (Same.refl _) s (Dq.int n)⟩
/-- the class a name stands for -/
def clsR (C : Addr) : Rp := ⟨fun _ v => v = .ref C, fun _ h => h⟩
theorem ev_cls : Ev (tC (.ref C)) ρ (pu (clsR C)) := Ev.pure fun Q s q => q _ _ _ (Same.refl _) s rfl
theorem ev_isX {a d : Addr} {D : Addr} {b : Bool} (hi : ρ[i]? = some (.p (errR a d n))) (hC : ExcC K C) (hk : PySem.W.kitOne K (.ref C) (.ref D) = some b) : Ev (tCB (rIsX K a (.ref C) (some d)) (tCons (tVar i) (tCons (tC (.ref D)) tNil))) ρ (pu (dB b)) := Ev.pure fun {G σ L0 H} Q s q => by
  obtain ⟨v, e, rfl, hd⟩ := s.get_p hi
  exact ⟨_, e, C, d, _, D, b, rfl, rfl, hC, s.same _ _ hd, rfl, hk, q _ _ _ (Same.refl _) s (Dq.bl b)⟩
/-! ### instances -/
inductive Flds (G : Hp) : List (Str × V) → List (Str × Rp) → Prop
  | nil : Flds G [] []
  | cons {f : Str} {v : V} {R : Rp} {fv fs} : R.p G v → Flds G fv fs → Flds G ((f, v) :: fv) ((f, R) :: fs)
theorem Flds.up {G G' : Hp} (e : Same G G') : ∀ {fv fs}, Flds G fv fs → Flds G' fv fs
  | _, _, .nil => .nil
  | _, _, .cons h t => .cons (Rp.up _ e h) (t.up e)
theorem Flds.get {G : Hp} {f : Str} {R : Rp} : ∀ {fv fs}, Flds G fv fs → fs.lookup f = some R → ∃ v, fv.lookup f = some v ∧ R.p G v
  | _, _, .nil, h => by cases h
  | _, _, .cons (f := g) (v := v) (R := R') (fs := fs) q t, h => by
    unfold List.lookup at h ⊢
    cases e : f == g with
    | true =>
      rw [e] at h
      cases h
      exact ⟨v, rfl, q⟩
    | false =>
      rw [e] at h
      exact t.get h
theorem Flds.no {G : Hp} {f : Str} : ∀ {fv fs}, Flds G fv fs → fs.lookup f = none → fv.lookup f = none
  | _, _, .nil, _ => rfl
  | _, _, .cons (f := g) (fs := fs) q t, h => by
    unfold List.lookup at h ⊢
    cases e : f == g with
    | true => rw [e] at h; cases h
    | false =>
      rw [e] at h
      exact t.no h
/-- an instance that stays -/
def insR (C : Addr) (fs : List (Str × Rp)) : Rp := ⟨fun G v => ∃ a dx fv, v = .ref a ∧ G a = some (.ins C dx fv) ∧ Flds G fv fs, fun e h => by
  obtain ⟨a, dx, fv, h1, h2, h3⟩ := h
  exact ⟨a, dx, fv, h1, e _ _ h2, h3.up e⟩⟩
/-- an instance that is being made -/
def oI (C a : Addr) (fs : List (Str × Rp)) : Op := ⟨fun G b cs => ∃ dx fv, b = a ∧ cs = [(a, HO.ins C dx fv)] ∧ Flds G fv fs, fun e h => by
  obtain ⟨dx, fv, h0, h1, h3⟩ := h
  exact ⟨dx, fv, h0, h1, h3.up e⟩⟩
theorem ev_fld {f : Str} {fs : List (Str × Rp)} (h : Ev te ρ (pu (insR C fs))) (hf : fs.lookup f = some R) (c : Cls K C) (hn : NoAttr K C f) : Ev (tFld K te f) ρ (pu R) := Ev.pure fun {G σ L0 H} Q s q => h.atp s fun G1 H1 v e1 s1 r => by
  obtain ⟨a, dx, fv, rfl, ha, hfl⟩ := r
  obtain ⟨w, hw, rw⟩ := hfl.get hf
  exact ⟨a, C, dx, fv, w, rfl, s1.same _ _ ha, c, hn, hw, q G1 H1 w e1 s1 rw⟩
/-- self.f = e in an __init__, self in slot i -/
theorem putF_new {f : Str} {v : V} : ∀ {fv : List (Str × V)}, fv.lookup f = none → putF f v fv = fv ++ [(f, v)]
  | [], _ => rfl
  | (g, w) :: fv, h => by
    unfold List.lookup at h
    cases e : f == g with
    | true => rw [e] at h; cases h
    | false =>
      rw [e] at h
      have hne : ¬ g = f := fun z => by rw [z] at e; simp at e
      show (if g = f then _ else _) = _
      rw [if_neg hne, putF_new h]
      rfl
theorem flds_app {G : Hp} {f : Str} {v : V} {R : Rp} (r : R.p G v) : ∀ {fv fs}, Flds G fv fs → Flds G (fv ++ [(f, v)]) (fs ++ [(f, R)])
  | _, _, .nil => .cons r .nil
  | _, _, .cons q t => .cons q (flds_app r t)
theorem flds_len {G : Hp} : ∀ {fv fs}, Flds G fv fs → fv.length = fs.length
  | _, _, .nil => rfl
  | _, _, .cons _ t => by simp [flds_len t]
theorem Ex.setfld {a : Addr} {f : Str} {fs : List (Str × Rp)} (hi : ρ[i]? = some (.o (oI C a fs))) (he : Ev te ρ (pu R)) (hf : fs.lookup f = none) (hz : fs.length < 1000) (c : Cls K C) (hn : NoAttr K C f) : Ex W (sFld K (tVar i) te f) ρ (.nx (ρ.set i (.o (oI C a (fs ++ [(f, R)]))))) := ⟨fun {G σ L0 H} D s q => he.atp s fun G1 H1 v e1 s1 r => by
  obtain ⟨a', cs, e, ⟨dx, fv, ha, hcs, hfl⟩, hh, k1, _⟩ := s1.get_o hi
  subst hcs ha
  refine ⟨_, e, _, C, dx, fv, rfl, hh _ (List.mem_cons_self ..), c, hn, by rw [flds_len hfl]; exact hz, ?_⟩
  rw [putF_new (hfl.no hf)]
  exact q G1 _ _ e1 (k1 (oI C _ (fs ++ [(f, R)])) [(_, .ins C dx (fv ++ [(f, v)]))] _ ⟨dx, _, rfl, rfl, flds_app r hfl⟩ fun M l => l.store)⟩
end
/-- what __init__ promises: fields F, or an error; its further arguments by A -/
inductive IRes where
  | ok (fs : List (Str × Rp)) | err (C : Addr) (n : Int)
def SpI {α : Type} (C : Addr) (pre : α → Prop) (A : α → List Bw) (F : α → IRes) : Sp := fun vs H Q E => ∃ x G L a dx ws, pre x ∧ vs = V.ref a :: ws ∧ Lay G ((a, HO.ins C dx []) :: L) H ∧ AllB G L ws (A x) ∧
  match F x with
  | .ok fs => ∀ G' H' dx fv, Same G G' → Lay G' ((a, HO.ins C dx fv) :: L) H' → Flds G' fv fs → Q .non H'
  | .err D n => ∀ G' H' d, Same G G' → Lay G' L H' → H' d = none → E (.ref D) (some d) (upd H' d (atF n))
section
variable {K : PySem.W.Frag} {W : WX} {ρ ρ' ρ1 : List Sl} {te ta tb : TE} {t u : TS} {tr : TA} {R : Rp} {B : Bw} {o : Out} {i : Nat} {α : Type} {pre : α → Prop} {A : α → List Bw} {F : α → IRes} {E : XK} {C D : Addr} {n : Int}
theorem SpI.len {m : Nat} (h : ∀ x, (A x).length = m) : ∀ vs H Q E, SpI C pre A F vs H Q E → vs.length = m + 1 := fun vs H Q E ⟨x, G, L, a, dx, ws, _, e, _, al, _⟩ => by
  rw [e, List.length_cons, allB_len al, h]
def stI (C a : Addr) (Bs : List Bw) (k : Nat) : List Sl := .o (oI C a []) :: (Bs.map Sl.b ++ List.replicate k Sl.x)
theorem SpI.run {vs : List V} {H : Hp} {Q : VK} {t : TS} {N : List Str} {m : Nat} (h : SpI C pre A F vs H Q E) (hm : ∀ x, (A x).length = m)
    (hx : ∀ x a, pre x → (∃ fs ρ, F x = .ok fs ∧ ρ[0]? = some (.o (oI C a fs)) ∧ Ex (WofE E) t (stI C a (A x) (N.length - (m + 1))) (.nx ρ)) ∨
      ∃ D n ρ, F x = .err D n ∧ Ex (WofE E) t (stI C a (A x) (N.length - (m + 1))) (.xc ρ D n)) : t { nx := fun _ H' => Q .non H', rt := Q } (L2.start N vs) H := by
  obtain ⟨x, G, L, a, dx, ws, hp, rfl, la, al, r⟩ := h
  have hl : ws.length = m := by rw [allB_len al, hm]
  have sl : Slots G L (L2.start N (V.ref a :: ws)) (stI C a (A x) (N.length - (m + 1))) [(a, HO.ins C dx [])] := by
    unfold L2.start
    rw [List.length_cons, hl]
    exact .o (O := oI C a []) (cs := [(a, HO.ins C dx [])]) ⟨dx, [], rfl, rfl, .nil⟩ (slots_start _ al)
  have st : Stt G (stI C a (A x) (N.length - (m + 1))) (L2.start N (V.ref a :: ws)) L H := ⟨_, sl, la⟩
  rcases hx x a hp with ⟨fs, ρ, hF, h0, ex⟩ | ⟨D, n, ρ, hF, ex⟩
  · rw [hF] at r
    refine ex.run _ st fun G' σ' H' e s => ?_
    obtain ⟨L', sl', la'⟩ := id s
    obtain ⟨a', cs, M, e1, ⟨dx', fv, ha, hcs, hfl⟩, pm, _⟩ := sl'.get_o h0
    subst ha hcs
    have l2 : Lay G' (M ++ ([(_, HO.ins C dx' fv)] ++ L)) H' := la'.perm (by
      refine (pm.append_right L).trans ?_
      rw [List.append_assoc]
      exact perm_swap _ _ _)
    obtain ⟨G2, e2, l3, _⟩ := l2.freezeAll
    exact r G2 H' dx' fv (e.trans e2) l3 (hfl.up e2)
  · rw [hF] at r
    refine ex.run _ st fun G' σ' H' d e s hd => ?_
    obtain ⟨G2, e2, l2⟩ := s.fin
    exact r G2 H' d (e.trans e2) l2 hd
/-- C(..) -/
theorem ev_make {fs : List (Str × Rp)} (x : α) (ha : EvA tr ρ (A x)) (hp : pre x) (hF : F x = .ok fs) : Ev (tMake C (SpI C pre A F) [] E tr) ρ (pu (insR C fs)) := Ev.pure fun {G σ L0 H} Q s q => ha.at s fun G1 H1 vs L e1 sl la r => fun y dx hy hd hne => by
  have g := same_upd (o := .own y) (la.freshG hd)
  have l1 : Lay (upd G1 dx (.own y)) (L ++ L0) (upd H1 dx (.own y)) := la.grow hd
  have hy1 : upd H1 dx (.own y) y = none := by rw [upd_ne (fun z => hne z.symm)]; exact hy
  have ab : ∀ {vs : List V} {Bs : List Bw}, AllB G1 (L ++ L0) vs Bs → AllB (upd G1 dx (.own y)) (L ++ L0) vs Bs := fun {vs Bs} h => by
    induction h with
    | nil => exact .nil
    | cons h _ ih => exact .cons (Bw.up _ g (fun _ z => z) h) ih
  refine ⟨x, upd G1 dx (.own y), L ++ L0, y, dx, vs, hp, by rw [List.append_nil], l1.cell hy1, ab r, ?_⟩
  rw [hF]
  refine fun G' H' dx' fv e2 l2 hfl => ⟨rfl, ?_⟩
  have hG : G' y = none := (l2.on _ (List.mem_cons_self ..)).2
  have e3 := same_upd (o := HO.ins C dx' fv) hG
  exact q _ H' (.ref y) ((e1.trans (g.trans e2)).trans e3) ⟨L, sl.up ((g.trans e2).trans e3), l2.freeze⟩ ⟨y, dx', fv, rfl, upd_same, hfl.up e3⟩
theorem ex_make (x : α) (ha : EvA tr ρ (A x)) (hp : pre x) (hF : F x = .err D n) : EvX (WofE E) (tMake C (SpI C pre A F) [] E tr) ρ D n := ⟨fun {G σ L0 H} Q s q => ha.at s fun G1 H1 vs L e1 sl la r => fun y dx hy hd hne => by
  have g := same_upd (o := .own y) (la.freshG hd)
  have l1 : Lay (upd G1 dx (.own y)) (L ++ L0) (upd H1 dx (.own y)) := la.grow hd
  have hy1 : upd H1 dx (.own y) y = none := by rw [upd_ne (fun z => hne z.symm)]; exact hy
  have ab : ∀ {vs : List V} {Bs : List Bw}, AllB G1 (L ++ L0) vs Bs → AllB (upd G1 dx (.own y)) (L ++ L0) vs Bs := fun {vs Bs} h => by
    induction h with
    | nil => exact .nil
    | cons h _ ih => exact .cons (Bw.up _ g (fun _ z => z) h) ih
  refine ⟨x, upd G1 dx (.own y), L ++ L0, y, dx, vs, hp, by rw [List.append_nil], l1.cell hy1, ab r, ?_⟩
  rw [hF]
  exact fun G' H' d e2 l2 hd' => q G' H' d (e1.trans (g.trans e2)) ⟨L, sl.up (g.trans e2), l2⟩ hd'⟩
/-- o.m(..) -/
theorem ev_meth {A : α → List Bw} {F : α → Res} {fs : List (Str × Rp)} {m : Str} {B0 : α → Bw} (x : α) (h0 : Ev te ρ (pu (insR C fs))) (hm : fs.lookup m = none) (ha : EvA tr ρ (A x)) (hB : ∀ G L v, (insR C fs).p G v → (B0 x).p G L v) (hp : pre x) (hR : F x = .ok R) :
    Ev (tMeth C m (SpA pre (fun x => B0 x :: A x) F) [] E te tr) ρ (pu R) := Ev.pure fun {G σ L0 H} Q s q => h0.atp s fun G0 H0 v e0 s0 r0 => by
  obtain ⟨a, dx, fv, rfl, hH, hfl⟩ := id r0
  refine ⟨a, dx, fv, rfl, s0.same _ _ hH, hfl.no hm, ?_⟩
  refine ha.at s0 fun G1 H1 vs L e1 sl la r => ?_
  refine ⟨x, G1, L ++ L0, hp, la, by rw [List.append_nil]; exact .cons (hB _ _ _ ((insR C fs).up e1 r0)) r, ?_⟩
  rw [hR]
  exact fun G2 H2 v e2 l2 rv => q G2 H2 v ((e0.trans e1).trans e2) ⟨L, sl.up e2, l2⟩ rv
theorem en_meth {A : α → List Bw} {F : α → Res} {fs : List (Str × Rp)} {m : Str} {B0 : α → Bw} {ds : List PyData} (x : α) (h0 : Ev te ρ (pu (insR C fs))) (hm : fs.lookup m = none) (ha : EvA tr ρ (A x)) (hB : ∀ G L v, (insR C fs).p G v → (B0 x).p G L v) (hp : pre x) (hR : F x = .own (oL ds)) :
    EvN (tMeth C m (SpA pre (fun x => B0 x :: A x) F) [] E te tr) ρ ds := ⟨fun {G σ L0 H} Q s q => h0.atp s fun G0 H0 v e0 s0 r0 => by
  obtain ⟨a, dx, fv, rfl, hH, hfl⟩ := id r0
  refine ⟨a, dx, fv, rfl, s0.same _ _ hH, hfl.no hm, ?_⟩
  refine ha.at s0 fun G1 H1 vs L e1 sl la r => ?_
  refine ⟨x, G1, L ++ L0, hp, la, by rw [List.append_nil]; exact .cons (hB _ _ _ ((insR C fs).up e1 r0)) r, ?_⟩
  rw [hR]
  intro G2 H2 a2 cs e2 l2 ro
  obtain ⟨ws, hcs, d⟩ := ro
  subst hcs
  obtain ⟨H3, hn3, rfl, l3⟩ := Lay.uncell l2
  exact q G2 H3 _ ws ((e0.trans e1).trans e2) ⟨L, sl.up e2, l3⟩ hn3 d⟩
theorem ex_meth {A : α → List Bw} {F : α → Res} {fs : List (Str × Rp)} {m : Str} {B0 : α → Bw} (x : α) (h0 : Ev te ρ (pu (insR C fs))) (hm : fs.lookup m = none) (ha : EvA tr ρ (A x)) (hB : ∀ G L v, (insR C fs).p G v → (B0 x).p G L v) (hp : pre x) (hR : F x = .err D n) :
    EvX (WofE E) (tMeth C m (SpA pre (fun x => B0 x :: A x) F) [] E te tr) ρ D n := ⟨fun {G σ L0 H} Q s q => h0.atp s fun G0 H0 v e0 s0 r0 => by
  obtain ⟨a, dx, fv, rfl, hH, hfl⟩ := id r0
  refine ⟨a, dx, fv, rfl, s0.same _ _ hH, hfl.no hm, ?_⟩
  refine ha.at s0 fun G1 H1 vs L e1 sl la r => ?_
  refine ⟨x, G1, L ++ L0, hp, la, by rw [List.append_nil]; exact .cons (hB _ _ _ ((insR C fs).up e1 r0)) r, ?_⟩
  rw [hR]
  exact fun G2 H2 d e2 l2 hd => q G2 H2 d ((e0.trans e1).trans e2) ⟨L, sl.up e2, l2⟩ hd⟩
end
end Z

set_option Elab.async false
set_option linter.all false
set_option maxRecDepth 100000
set_option maxHeartbeats 2000000
/-! Zg: calls that may raise within a try, repr, the law's own call. -/
namespace Z
open PySem PySem.Spec PyProof.Rows L2
theorem pass_no {X : Cx} : Passes (L2.CX X.prog X.w) X (fun _ _ _ => False) := fun pins σ H s e s' inv c => by
  obtain ⟨a, B, H', cls, d, _, _, _, _, _, _, _, z⟩ := c
  exact z.elim
section
variable {X : Cx} {CX : CXT} {k : Nat} {f C : Addr} {fd : FuncData} {ps : List Str} {sp : Sp} {E : L2.St → XK} {x m : Str} {p pos apos : Pos} {e o : Expr} {es : List Expr} {ta : TE} {t : TA}
/-- C(..) in a try: what is raised is wished for at the slots of the call -/
def tMakeS (C : Addr) (sp : Sp) (E : L2.St → XK) (t : TA) : TE := fun σ H Q => t σ H fun vs H1 => ∀ y dy, H1 y = none → H1 dy = none → dy ≠ y → sp (.ref y :: vs) (upd (upd H1 dy (.own y)) y (.ins C dy [])) (fun v H2 => v = .non ∧ Q (.ref y) H2) (E σ)
theorem pe_makeS (M : Mk X.K C f) (F : FnOk X.prog X.w X.K X.mg X.base CX k f fd ps sp) (hr : Room (k + 1) X.A) (hg : Gl X x) (hm : X.mg x = some (.ref C)) (hb : Binds X.K fd ps []) (hx : ∀ σ, PassesAt CX X σ (E σ))
    (ha : PA X (e :: es) t) (hdb : (x == ("__debug__" : Str)) = false := by decide) (he : starEach (e :: es) X.env = (false, eval e X.env) :: starEach es X.env := by rfl) (hpl : (backTo pos (starEach es X.env)).any (·.1) = false := by rfl) :
    PE X (.Call (.Name x p) (e :: es) [] pos) (tMakeS C sp E t) := by
  refine ⟨fun pins s σ H Q inv h => wpAny_Call_Name_kw (ld_glob inv hg hm ?_ hdb)⟩
  refine PySem.W.callWith_K (h₀ := X.base) inv.ok.mod.kin M.kp (thn (ha.run pos pins s σ H _ inv h) fun us s1 got => ?_) he hpl
  obtain ⟨vs, H1, J, r, q⟩ := got
  refine ⟨J.kIn, ?_⟩
  let n := s1.heap.objs.size
  have hq := q (n + 1) n (J.hok.fresh (Nat.le_succ _)) (J.hok.fresh (Nat.le_refl _)) (Nat.ne_of_lt (Nat.lt_succ_self _))
  have J2 := Inv.made (C := C) J
  have hlen : (Value.ref (n + 1) :: us).length = ps.length := by
    have e1 : (V.ref (n + 1) :: vs).length = ps.length := F.len _ _ _ _ hq
    rw [List.length_cons, ← r.length]
    rw [List.length_cons] at e1
    exact e1
  have bind := hb _ (Value.ref (n + 1) :: us) J2.kIn (by rw [List.append_nil]; exact hlen)
  rw [List.append_nil] at bind
  have rel : Vals (V.ref (n + 1) :: vs) (Value.ref (n + 1) :: us) := .cons rfl r
  have go := F.run _ X.stack _ _ ⟨Value.ref (n + 1) :: us, []⟩ _ _ _ (E σ) (hr.make C us []) (J2.env0.make C us []) bind rel hq
  refine wpAny_call (make_map (f := f) J.kIn M.makes M.init (beq_iff_eq.mp M.fn) (codeAny_mono go fun res s' hres => ?_))
  match res, hres with
  | .error ex, hres => exact hx σ pins _ _ ex s' J2 hres
  | .ok (.ret u), hres =>
    obtain ⟨v, H', J3, rv, ev, q3⟩ := J2.after hres
    subst ev
    exact ⟨rv, V.ref (n + 1), H', J3, rfl, q3⟩
  | .ok .next, hres => exact hres.elim
  | .ok .brk, hres => exact hres.elim
  | .ok .cont, hres => exact hres.elim
/-- o.m(..) in a try -/
def tMethSx (C : Addr) (m : Str) (sp : Sp) (E : L2.St → XK) (ta : TE) (t : TA) : TE := fun σ H Q => ta σ H fun x H1 => ∃ a dx fs, x = .ref a ∧ H1 a = some (.ins C dx fs) ∧ fs.lookup m = none ∧ t σ H1 fun vs H2 => sp (x :: vs) H2 Q (E σ)
theorem pe_methSx {pl : Sem Bool} (ho : PE X o ta) (c : Cls X.K C) (hm : Meth X.K C m f) (F : FnOk X.prog X.w X.K X.mg X.base CX k f fd ps sp) (hr : Room k X.A) (hb : Binds X.K fd ps []) (hx : ∀ σ, PassesAt CX X σ (E σ)) (ha : PA X (e :: es) t)
    (he : starEach (e :: es) X.env = (false, eval e X.env) :: starEach es X.env := by rfl) (hpl : (backTo pos (starEach es X.env)).any (·.1) = false := by rfl)
    (ht : eval (.Call (.Attribute o m apos) (e :: es) [] pos) X.env = (do
      let w ← eval o X.env
      standAt apos.atName
      let (g, first) ← holding [w] (getMethod w m pl)
      callWith pos g first (backTo pos (starEach (e :: es) X.env)) (backToKw pos (keywordEach [] X.env))) := by rfl) :
    PE X (.Call (.Attribute o m apos) (e :: es) [] pos) (tMethSx C m sp E ta t) := by
  refine ⟨fun pins s σ H Q inv h => PySem.W.methodCall_KW (pl := pl) (thn (ho.run pins s σ H _ inv h) fun u s1 got => ?_) ht⟩
  obtain ⟨x, H1, J, rx, a, dx, fs, rfl, hHa, hl, q⟩ := got
  cases rx
  refine getmeth_ok J hHa c hm hl ?_
  refine PySem.W.callWith_K (first := [.ref a]) (h₀ := X.base) J.ok.mod.kin hm.kp (thn (ha.run pos pins s1 σ H1 _ J q) fun us s2 got => ?_) he hpl
  obtain ⟨vs, H2, J2, r, q2⟩ := got
  exact ⟨J2.kIn, run_fnS (us := .ref a :: us) (vs := .ref a :: vs) F hr hb (hx σ) J2 (.cons rfl r) q2⟩
/-- repr of data, where no repr is under way -/
abbrev cRepr : List V → Hp → VK → Prop := fun xs H Q => ∃ a d, xs = [.ref a] ∧ Dq H (.ref a) d ∧ d.showable = true ∧ d.hasDict = false ∧ d.depth ≤ 60 ∧ d.shown.length ≤ sizeLine ∧ Q (.str d.shown) H
theorem call_repr (hgd : X.A.guards = some []) (hu : X.A.units + 70 < cLine) : CallR X (.builtin "repr") cRepr := by
  intro pins s σ H xs us Q inv r h
  obtain ⟨a, d, rfl, hd, h1, h2, h3, h4, q⟩ := h
  cases r with
  | cons r1 r2 =>
    cases r2; cases r1
    obtain ⟨as, rd⟩ := L2.Dp.reads inv d _ _ (dq_dp (K := X.K) hd) rfl
    refine repr_of_reads' rd h1 (fun z => by rw [h2] at z; cases z) hgd (by omega) (fun _ _ e => e) (fun h' u tk hk => ?_) h4
    exact ⟨.str d.shown, H, inv.kept (t' := tk) hk, ⟨u, rfl⟩, q⟩
end
/-! ### the law's own call: nothing runs around it -/
/-- a def's promise where the law is called -/
def RunAt (P : Program) (w : World) (K : PySem.W.Frag) (mg : Str → Option Value) (base : Heap) (CX : CXT) (k : Nat) (f : Addr) (fd : FuncData) (ps : List Str) (sp : Sp) : Prop :=
  ∀ (s : Shared) (H : Hp) (args : Args) (us : List Value) (vs : List V) (Q : VK) (E : XK), Room k callerA → Env0 P w K mg base callerA [] s H → BindsTo s fd args (ps.zip us) → Vals vs us → sp vs H Q E →
    codeAny (model P w) callerA (.call (.ref f) args) (CR CX [] P w H s Q E) s
/-- the script, where it is no object of the text: known to its object -/
def scriptH (K : PySem.W.Frag) (a : Addr) (o : Obj) (xs : List V) : Hp := fun b => if b = a ∧ K.lookup a = none then some (.frz o (.lst xs)) else none
theorem run_law {P : Program} {w : World} {K : PySem.W.Frag} {mg mb : Str → Option Value} {CX : CXT} {k : Nat} {f a : Addr} {fd : FuncData} {x : Str} {sp : Sp} {s : Shared} {us : List Value} {ns : List Int}
    (kin : K.In s.heap) (glob : s.heap.Ns mainGlobals mg) (blt : s.heap.Ns builtinsNs mb) (bltIs : ∀ x : Str, x ≠ "__name__" → mb x = bootBuiltins x) (lim : s.heap.NoLimit) (gens : s.gens = #[])
    (there : s.heap.get? a = some { cls := .type "list", data := .seq us.toArray }) (isInts : IntsAre us ns) (small : ns.length ≤ sizeLine) (hr : Room k callerA)
    (F : ∀ base : Heap, K.In base → base.Ns mainGlobals mg → RunAt P w K mg base CX k f fd [x] sp) (binds : ∀ (s : Shared) (u : Value), BindsTo s fd ⟨[u], []⟩ [(x, u)])
    (hsp : ∀ H : Hp, SqL K H a (ns.map V.int) → sp [.ref a] H (fun v _ => v = .bl true) fun _ _ _ => False) (hCX : ∀ H e s', CX [] H s (fun _ _ _ => False) e s' → False) :
    codeAny (model P w) callerA (.call (.ref f) ⟨[.ref a], []⟩) (fun r s' => r = .ok (.ret (.bool true)) ∧ OldK s.heap s'.heap ∧ s'.os = s.os ∧ AllBare s'.gens) s := by
  have rel : Vals (ns.map V.int) us := vals_ints isInts
  have lenU : us.length = ns.length := isInts.length
  let o : Obj := { cls := .type "list", data := .seq us.toArray }
  let H := scriptH K a o (ns.map V.int)
  have Hat : ∀ b u, H b = some u → b = a ∧ K.lookup a = none ∧ u = .frz o (.lst (ns.map V.int)) := fun b u e => by
    have e : (if b = a ∧ K.lookup a = none then some (HO.frz o (.lst (ns.map V.int))) else none) = some u := e
    by_cases h : b = a ∧ K.lookup a = none
    · rw [if_pos h] at e
      exact ⟨h.1, h.2, (Option.some.inj e).symm⟩
    · rw [if_neg h] at e
      cases e
  have sq : SqL K H a (ns.map V.int) := by
    cases e : K.lookup a with
    | none => exact .inl (.inr ⟨o, if_pos ⟨rfl, e⟩⟩)
    | some q =>
      have z := kin a q e
      rw [there] at z
      cases z
      exact .inr ⟨_, us.toArray, _, e, rfl, rfl, rfl, by rw [List.size_toArray, lenU]; exact small, by simpa using rel⟩
  have hok : HOk P w H s.heap := fun b u e => by
    obtain ⟨rfl, _, rfl⟩ := Hat b u e
    exact ⟨there, by rw [List.length_map]; exact small, us, _, rel, there⟩
  have away : ∀ {b : Addr} {q : Obj}, K.lookup b = some q → H b = none := fun {b q} e => by
    cases z : H b with
    | none => rfl
    | some u =>
      obtain ⟨rfl, h, _⟩ := Hat b u z
      rw [h] at e
      cases e
  have dict : ∀ {b : Addr} {m : Str → Option Value}, s.heap.Ns b m → (hidT s.heap H).Ns b m := fun {b m} ⟨q, es, ep, e, d, r⟩ => by
    refine ⟨q, es, ep, hidT_get e ?_, d, r⟩
    cases z : H b with
    | none => rfl
    | some u =>
      obtain ⟨rfl, _, _⟩ := Hat b u z
      rw [there] at e
      cases e
      have d : Data.seq us.toArray _ = Data.dict es ep := d
      cases d
  have kinB : K.In (hidT s.heap H) := fun b q e => hidT_get (kin b q e) (away e)
  obtain ⟨mc, c1, c2⟩ := lim
  have env : Env0 P w K mg (hidT s.heap H) callerA [] s H :=
    { frames := rfl, mod := ⟨kinB, dict glob, ⟨mb, dict blt, bltIs⟩, ⟨mc, dict c1, c2⟩⟩, bs := fun b q e => of_hidT e, bsz := Nat.le_of_eq (hidT_size _ _), funs := trivial, frf := fun b hb => (by cases (show b ∈ ([] : List Addr) from hb)), hok := hok, bare := .of_eq gens }
  refine codeAny_mono (F _ kinB (dict glob) s H ⟨[.ref a], []⟩ [.ref a] [.ref a] _ _ hr env (binds s (.ref a)) (.cons rfl .nil) (hsp H sq)) fun r s' h => ?_
  match r, h with
  | .error e, h => exact (hCX H e s' h).elim
  | .ok .next, h => exact h.elim
  | .ok .brk, h => exact h.elim
  | .ok .cont, h => exact h.elim
  | .ok (.ret u), h =>
    obtain ⟨v, H', os, bare, un, hok', rv, q⟩ := h
    have q : v = .bl true := q
    subst q
    cases rv
    refine ⟨rfl, OldK.of_keep fun b q e => ?_, os, bare⟩
    cases z : H b with
    | none => exact un.keep b q e z (fun m => by cases (show b ∈ ([] : List Addr) from m)) (by simp)
    | some u =>
      obtain ⟨rfl, _, rfl⟩ := Hat b u z
      obtain ⟨e2, _⟩ := hok' _ _ (un.frzs _ _ _ z)
      rw [e] at there
      cases there
      exact e2
/-- the goal behind the head, from the law's promise where it is called -/
theorem walk_at {l : PySem.W.OpenLaw} {n k : Nat} {q : Program} {loose : List Str} {XP : (Str → Option Value) → Heap → Prop} {YP : World → Heap → Prop} {d : DefRec} {K : Params → PySem.W.Frag} {CX : World → CXT} {sp : World → Sp} {x : Str}
    (hn : l.most = some n) (hn2 : n ≤ sizeLine) (hdf : d.params.defaults = []) (hr : Room k callerA) (hY : ∀ (w : World) (h : Heap), YP w h → (K w.params).In h)
    (F : ∀ (w : World) (mg : Str → Option Value) (fa : Addr) (h : Heap), (K w.params).In h → h.Ns mainGlobals mg → mg d.name = some (.ref fa) →
      ∃ fd : FuncData, (∀ (s : Shared) (u : Value), BindsTo s fd ⟨[u], []⟩ [(x, u)]) ∧ ∀ base : Heap, (K w.params).In base → base.Ns mainGlobals mg → RunAt l.prog w (K w.params) mg base (CX w) k fa fd [x] (sp w))
    (hsp : ∀ (w : World) (H : Hp) (a : Addr) (ns : List Int), ns.length ≤ n → SqL (K w.params) H a (ns.map V.int) → sp w [.ref a] H (fun v _ => v = .bl true) fun _ _ _ => False)
    (hCX : ∀ (w : World) (H : Hp) (s : Shared) (e : Value) (s' : Shared), CX w [] H s (fun _ _ _ => False) e s' → False) : PySem.W.WalkO q loose XP YP l.row.toRowW d [] (fun f vs => PySem.call f vs) := by
  refine Att.attach_call hn hdf fun w s₀ s₁ mg mb fa o pm cd doc a vs ns G Y ho hd hcd hmg hobj hints hlen hg => ?_
  have kin := hY w _ Y
  obtain ⟨fd, hb, hF⟩ := F w mg fa _ kin G.T.g hmg
  exact run_law kin G.T.g G.T.b G.T.builtins G.T.nolimit hg hobj hints (Nat.le_trans hlen hn2) hr hF hb (fun H hS => hsp w H a ns hlen hS) fun H e s' => hCX w H s₁ e s'
/-- the law's def at its call: its body, with nothing under way -/
theorem fun_at {P : Program} {w : World} {K : PySem.W.Frag} {mg : Str → Option Value} {base : Heap} {x qual : Str} {st : Stmt} {f : Addr} {fd : FuncData} {N ps : List Str} {k : Nat} {sp : Sp} (F : Fun K x qual st f fd) (S : FnScope N ps (defScope st))
    (len : ∀ vs H Q E, sp vs H Q E → vs.length = ps.length)
    (body : ∀ (cdv : Value) (s : Shared) (H : Hp) (vs : List V) (Q : VK) (E : XK), Room k (callerA.deeper (envOfC qual (defScope st) s.heap.objs.size f cdv)) → (callerA.deeper (envOfC qual (defScope st) s.heap.objs.size f cdv)).guards = some [] → sp vs H Q E →
      ∃ t, PSs (cxOf (L2.CX P w) P w K mg base N qual (defScope st) f cdv callerA [] s H E) (defBody st) t ∧ t { nx := fun _ H' => Q .non H', rt := Q } (L2.start N vs) H) : RunAt P w K mg base (L2.CX P w) (k + 1) f fd ps sp := by
  obtain ⟨oc, od, kV, doc, pm, an, cdv, ct, osl, rfl, lk, hcd⟩ := F.ex
  intro s H args us vs Q E hr env bind rel hsp
  have lens := len _ _ _ _ hsp
  have kin : K.In s.heap := env.mod.kin.keeps fun b o e => (env.bs b o e).1
  have lim : s.heap.NoLimit := env.mod.nolimit.keeps fun b o e => (env.bs b o e).1
  have kinds : ∀ y ∈ ps.zip us, (defScope st).names.lookup y.1 = some .local ∨ ((defScope st).names.lookup y.1 = some .cell ∧ ((cellsFrom (s.heap.objs.size + 1) (defScope st).names []).lookup y.1).isSome = true) := by
    rintro ⟨n, v⟩ hy
    exact (S.par n (List.of_mem_zip hy).1).imp id fun z => ⟨z, PySem.W.cellsFrom_some _ _ _ (.inl z)⟩
  obtain ⟨t, ht, hq⟩ := body cdv s H vs Q E (hr.deeper _) rfl hsp
  refine codeAny_call_function hr.depth (kin _ _ lk) rfl S.co S.gen rfl (PySem.W.codeRec_of kin hcd) (bind _ _ _ _ ?_)
  refine wpAny_newFunctionEnv_cells S.kind kinds fun e he s1 new => ?_
  subst he
  refine ⟨lim.keeps new.toInCall.keep, codeAny_func ?_⟩
  have inv : Inv (cxOf (L2.CX P w) P w K mg base N qual (defScope st) f cdv callerA [] s H E) [] (L2.start N vs) H s1 := inv_start S hr.hd env lens rel new
  refine wpAny_mono (ht.run [] s1 _ H _ inv hq) (fun fl s' got => ?_) fun e s' got => got
  match fl, got with
  | .ret u, ⟨v, σ', H', J, rv, q⟩ => exact ⟨v, H', J.os, J.bare, J.base, J.hok, rv, q⟩
  | .next, ⟨σ', H', J, q⟩ => exact ⟨.non, H', J.os, J.bare, J.base, J.hok, rfl, q⟩
  | .brk, ⟨σ', H', J, q⟩ => exact q.elim
  | .cont, ⟨σ', H', J, q⟩ => exact q.elim
end Z

set_option Elab.async false
set_option linter.all false
set_option maxRecDepth 100000
set_option maxHeartbeats 2000000
/-! Zh: data arguments, told-of-some values, handing over. -/
namespace Z
open PySem PySem.Spec PyProof.Rows L2
section
variable {K : PySem.W.Frag} {W : WX} {ρ ρ' ρ1 : List Sl} {te ta tb : TE} {t u : TS} {tr : TA} {R : Rp} {B Ba Bb : Bw} {o : Out} {i j : Nat} {E : XK} {C : Addr} {n : Int}
/-- arguments that are data -/
structure EvD (ta : TA) (ρ : List Sl) (ds : List PyData) : Prop where
  all : EvA ta ρ (ds.map fun d => pu (dat d))
theorem ed_nil : EvD tNil ρ [] := ⟨ea_nil⟩
theorem ed_cons {d : PyData} {ds : List PyData} (h : Ev te ρ (pu (dat d))) (t : EvD tr ρ ds) : EvD (tCons te tr) ρ (d :: ds) := ⟨ea_cons h t.all⟩
theorem ev_tupD {ds : List PyData} (h : EvD tr ρ ds) (hl : ds.length ≤ 1000) : Ev (tTup tr) ρ (pu (dat (.tuple ds))) := ev_tup h.all hl
theorem en_lstD {ds : List PyData} (h : EvD tr ρ ds) (hl : ds.length ≤ 1000) : EvN (tLst tr) ρ ds := en_lst h.all hl
/-- a list that stays is a list -/
theorem Op2.l {r : R2} {ds : List PyData} (h : Op2 r (bL ds) Bb R) : Op2 r (pu (dat (.list ds))) Bb R := fun G H L x y Q l hx hy q => h G H L x y Q l (bl_of_dat _ _ _ hx) hy q
theorem Op2.r {r : R2} {ds : List PyData} (h : Op2 r Ba (bL ds) R) : Op2 r Ba (pu (dat (.list ds))) R := fun G H L x y Q l hx hy q => h G H L x y Q l hx (bl_of_dat _ _ _ hy) q
theorem Op2N.l {r : R2} {ds es : List PyData} (h : Op2N r (bL ds) Bb es) : Op2N r (pu (dat (.list ds))) Bb es := fun G H L x y Q l hx hy q => h G H L x y Q l (bl_of_dat _ _ _ hx) hy q
theorem Op2N.r {r : R2} {ds es : List PyData} (h : Op2N r Ba (bL ds) es) : Op2N r Ba (pu (dat (.list ds))) es := fun G H L x y Q l hx hy q => h G H L x y Q l hx (bl_of_dat _ _ _ hy) q
theorem Op2.is {r : R2} {R' : Rp} (h : Op2 r Ba Bb R) (e : R = R') : Op2 r Ba Bb R' := by rw [← e]; exact h
/-! ### values of which some is told -/
def exR {α : Type} (P : α → Prop) (F : α → Rp) : Rp := ⟨fun G v => ∃ x, P x ∧ (F x).p G v, fun e h => by
  obtain ⟨x, p, q⟩ := h
  exact ⟨x, p, (F x).up e q⟩⟩
theorem Slots.open_ {α : Type} {P : α → Prop} {F : α → Rp} {G : Hp} {L0 : List Cell} : ∀ {σ ρ L} {i : Nat}, Slots G L0 σ ρ L → ρ[i]? = some (.p (exR P F)) → ∃ x, P x ∧ Slots G L0 σ (ρ.set i (.p (F x))) L
  | _, _, _, _, .nil, h => by simp at h
  | _, _, _, 0, .x _, h => by simp at h
  | _, _, _, 0, .b _ _, h => by simp at h
  | _, _, _, 0, .o _ _, h => by simp at h
  | _, _, _, 0, .p q s, h => by
    simp at h; subst h
    obtain ⟨x, p, r⟩ := q
    exact ⟨x, p, .p r s⟩
  | _, _, _, i + 1, .x s, h => by
    obtain ⟨x, p, s'⟩ := s.open_ (i := i) (by simpa using h)
    exact ⟨x, p, .x s'⟩
  | _, _, _, i + 1, .b q s, h => by
    obtain ⟨x, p, s'⟩ := s.open_ (i := i) (by simpa using h)
    exact ⟨x, p, .b q s'⟩
  | _, _, _, i + 1, .p q s, h => by
    obtain ⟨x, p, s'⟩ := s.open_ (i := i) (by simpa using h)
    exact ⟨x, p, .p q s'⟩
  | _, _, _, i + 1, .o q s, h => by
    obtain ⟨x, p, s'⟩ := s.open_ (i := i) (by simpa using h)
    exact ⟨x, p, .o q s'⟩
theorem Ex.open_ {α : Type} {P : α → Prop} {F : α → Rp} (i : Nat) (hi : ρ[i]? = some (.p (exR P F))) (h : ∀ x, P x → Ex W t (ρ.set i (.p (F x))) o) : Ex W t ρ o := ⟨fun D s q => by
  obtain ⟨L, sl, la⟩ := s
  obtain ⟨x, p, sl'⟩ := sl.open_ hi
  exact (h x p).run D ⟨L, sl', la⟩ q⟩
theorem Ev.ex {α : Type} {P : α → Prop} {F : α → Rp} (x : α) (p : P x) (h : Ev te ρ (pu (F x))) : Ev te ρ (pu (exR P F)) := h.imp fun _ _ _ q => ⟨x, p, q⟩
/-! ### handing over -/
theorem Ex.retO {ds : List PyData} (h : EvN te ρ ds) : Ex W (tRet te) ρ (.ro (oL ds)) := ⟨fun D s q => h.run _ s fun G' H' p vs e s' hp d => by
  obtain ⟨G2, e2, l2⟩ := s'.fin
  exact q G2 _ p [(p, .lst vs)] (e.trans e2) (l2.cell hp) ⟨vs, rfl, dpAll_up e2 d⟩⟩
/-- an owned list, handed over -/
theorem Ex.retOv {ds : List PyData} (hi : ρ[i]? = some (.o (oL ds))) : Ex W (tRet (tVar i)) ρ (.ro (oL ds)) := ⟨fun D s q => by
  obtain ⟨L, sl, la⟩ := s
  obtain ⟨a, cs, M, e, hO, pm, _⟩ := sl.get_o hi
  have l2 : Lay _ (M ++ (cs ++ _)) _ := la.perm (by
    refine (pm.append_right _).trans ?_
    rw [List.append_assoc]
    exact perm_swap cs M _)
  obtain ⟨G2, e2, l3, _⟩ := l2.freezeAll
  exact ⟨_, e, q G2 _ a cs e2 l3 ((oL ds).up e2 hO)⟩⟩
/-- a pair (n, owned list) -/
def oPair (n : Int) (ds : List PyData) : Op := ⟨fun G a cs => ∃ l vs, G a = some (.tup [.int n, .ref l]) ∧ cs = [(l, HO.lst vs)] ∧ DqAll G vs ds, fun e h => by
  obtain ⟨l, vs, h1, h2, h3⟩ := h
  exact ⟨l, vs, e _ _ h1, h2, dpAll_up e h3⟩⟩
theorem Ex.retPair {ds : List PyData} (hi : ρ[i]? = some (.p (dI n))) (hj : ρ[j]? = some (.o (oL ds))) : Ex W (tRet (tTup (tCons (tVar i) (tCons (tVar j) tNil)))) ρ (.ro (oPair n ds)) := ⟨fun {G σ L0 H} D s q => by
  obtain ⟨v, e, r⟩ := s.get_p hi
  cases r
  obtain ⟨L, sl, la⟩ := s
  obtain ⟨a, cs, M, e', ⟨vs, hcs, hd⟩, pm, _⟩ := sl.get_o hj
  subst hcs
  refine ⟨_, e, _, e', (by show 2 ≤ sizeLine; decide), fun p hp => ?_⟩
  have g := same_upd (o := HO.tup [.int n, .ref a]) (la.freshG hp)
  have l2 : Lay (upd G p (HO.tup [.int n, .ref a])) (M ++ ([(a, HO.lst vs)] ++ L0)) (upd H p (HO.tup [.int n, .ref a])) := (la.grow (o := HO.tup [.int n, .ref a]) hp).perm (by
    refine (pm.append_right _).trans ?_
    rw [List.append_assoc]
    exact perm_swap _ M _)
  obtain ⟨G2, e2, l3, _⟩ := l2.freezeAll
  exact q G2 _ p _ (g.trans e2) l3 ⟨a, vs, e2 _ _ upd_same, rfl, dpAll_up (g.trans e2) hd⟩⟩
/-- a, b = f(..), f handing over a pair of a number and a list -/
theorem Ex.asgPair {α : Type} {pre : α → Prop} {A : α → List Bw} {F : α → Res} {ds : List PyData} (x : α) (ha : EvA tr ρ (A x)) (hp : pre x) (hR : F x = .own (oPair n ds)) (hj : j < ρ.length) :
    Ex W (tAsg (tCall (SpA pre A F) [] E tr) (gTup K 2 (gCons (gName i) (gCons (gName j) gNil)))) ρ (.nx ((ρ.set i (.p (dI n))).set j (.o (oL ds)))) := ⟨fun {G σ L0 H} D s q => ha.at s fun G1 H1 vs L e1 sl la r => by
  refine ⟨x, G1, L ++ L0, hp, la, by rw [List.append_nil]; exact r, ?_⟩
  rw [hR]
  intro G2 H2 a cs e2 l2 ro
  obtain ⟨l, ws, ht, hcs, d⟩ := ro
  subst hcs
  obtain ⟨H3, hn3, rfl, l3⟩ := Lay.uncell l2
  refine ⟨a, [.int n, .ref l], rfl, .inl (.inl (l2.same _ _ ht)), rfl, _, _, rfl, _, _, rfl, rfl, ?_⟩
  have s3 : Stt G2 ρ σ L0 H3 := ⟨L, sl.up e2, l3⟩
  obtain ⟨G4, e4, s4⟩ := s3.set_p (R := dI n) (v := .int n) (Dq.int n) i
  obtain ⟨G5, e5, s5⟩ := s4.set_o (O := oL ds) (a := l) (cs := [(l, .lst ws)]) (H' := upd H3 l (.lst ws)) ⟨ws, rfl, dpAll_up e4 d⟩ j (by simpa using hj) (fun M lm => lm.cell hn3)
  exact q G5 _ _ ((e1.trans e2).trans (e4.trans e5)) s5⟩
/-- f(..).append(e): a new list, changed and let go -/
theorem Ex.appNew {ds : List PyData} {d : PyData} {T : String} (h : EvN te ρ ds) (he : Ev ta ρ (pu (dat d))) (hz : ds.length < 1000000) (hT : T = "list") : Ex W (tDrop (tBM K T rAppend te (tCons ta tNil))) ρ (.nx ρ) := ⟨fun {G σ L0 H} D s q => h.run _ s fun G1 H1 p vs e1 s1 hp hd => by
  refine ⟨.inl ⟨hT, vs, .inl (.inl upd_same)⟩, ?_⟩
  obtain ⟨L, sl, la⟩ := s1
  -- the list as a frame's cell while e is evaluated
  have st : Stt G1 ρ σ ((p, HO.lst vs) :: L0) (upd H1 p (.lst vs)) := ⟨L, sl.mono fun c hc => List.mem_cons_of_mem _ hc, (la.cell hp).perm List.perm_middle.symm⟩
  refine he.atp st fun G2 H2 v e2 s2 r => ?_
  obtain ⟨L2, sl2, la2⟩ := s2
  have la3 := la2.perm List.perm_middle
  have hc := (la3.on _ (List.mem_cons_self ..)).1
  refine ⟨p, vs, v, rfl, rfl, hc, by rw [dpAll_len hd]; exact Nat.lt_trans hz (by decide), ?_⟩
  have la4 := (la3.store (u := HO.lst (vs ++ [v])))
  have hG : G2 p = none := (la3.on _ (List.mem_cons_self ..)).2
  have g := same_upd (o := HO.lst (vs ++ [v])) hG
  exact q _ _ _ ((e1.trans e2).trans g) ⟨L2, (((sl.mix e2 sl2)).up g), la4.freeze⟩⟩
theorem enum_map {α : Type} {en : α → PyData} : ∀ (xs : List α) (k : Nat), ((xs.map en).zipIdx k).map (fun p => PyData.tuple [.int ((p.2 : Nat) : Int), p.1]) = (xs.zipIdx k).map fun p => .tuple [.int ((p.2 : Nat) : Int), en p.1]
  | [], _ => rfl
  | x :: xs, k => by
    rw [List.map_cons, List.zipIdx_cons, List.map_cons, List.zipIdx_cons, List.map_cons, enum_map xs (k + 1)]
theorem ei_enumT {α : Type} {en : α → PyData} {xs : List α} (h : EvS K te ρ (xs.map en)) : EvI K (iEnum K (tCons te tNil)) ρ (xs.zipIdx.map fun p => .tuple [.int ((p.2 : Nat) : Int), en p.1]) := by
  rw [← enum_map xs 0]
  exact ei_enum h
theorem ei_rangeT {n : Int} (h : EvA tr ρ [pu (dI n)]) (h1 : -(2 ^ 62) ≤ n) (h2 : n < 2 ^ 62) : EvI K (iRng1 tr) ρ ((List.range n.toNat).map fun (k : Nat) => .int (k : Int)) := by
  have e : ((List.range n.toNat).map fun (k : Nat) => PyData.int (k : Int)) = irange 0 n.toNat := by
    unfold irange
    refine List.map_congr_left fun k _ => ?_
    rw [Int.zero_add]
  rw [e]
  exact ei_range1 h h1 h2
theorem ei_listT {α : Type} {en : α → PyData} {xs : List α} (h : EvS K te ρ (xs.map en)) : EvI K (iList K te) ρ (xs.map en) := ei_list h
theorem len_map_le {α β : Type} {f : α → β} {xs : List α} {n : Nat} (h : xs.length ≤ n) : (xs.map f).length ≤ n := by rw [List.length_map]; exact h
end
theorem cl_lenP {K : PySem.W.Frag} {ds : List PyData} : Cl (cLen K) [pu (dat (.list ds))] (dI ds.length) := fun G H L vs Q l r q => by
  cases r with
  | cons h t => exact cl_len G H L _ Q l (.cons (bl_of_dat _ _ _ h) t) q
theorem cl_listP {K : PySem.W.Frag} {ds : List PyData} : ClN (cList K) [pu (dat (.list ds))] ds := fun G H L vs Q l r q => by
  cases r with
  | cons h t => exact cl_list G H L _ Q l (.cons (bl_of_dat _ _ _ h) t) q
theorem o_inT2 {K : PySem.W.Frag} {n a b : Int} : Op2 (rIn K false) (pu (dI n)) (pu (dat (.tuple [.int a, .int b]))) (dB (decide (n ∈ [a, b]))) := o_inT (ns := [a, b])
theorem SpA.go {α : Type} {pre : α → Prop} {A : α → List Bw} {F : α → Res} {vs : List V} {H : Hp} {Q : VK} {E : XK} {t : TS} (h : SpA pre A F vs H Q E) (N : List Str) (m : Nat) (hm : ∀ x, (A x).length = m)
    (hx : ∀ x, pre x → ∃ r ρ, F x = r ∧ Ex (WofE E) t (st0 (A x) (N.length - m)) (r.out ρ)) : t { nx := fun _ H' => Q .non H', rt := Q } (L2.start N vs) H :=
  h.run (N := N) hm fun x p => by
    obtain ⟨r, ρ, e, ex⟩ := hx x p
    exact ⟨ρ, by rw [e]; exact ex⟩
/-- where the body may run out -/
theorem SpA.goN {α : Type} {pre : α → Prop} {A : α → List Bw} {F : α → Res} {vs : List V} {H : Hp} {Q : VK} {E : XK} {t : TS} (h : SpA pre A F vs H Q E) (N : List Str) (m : Nat) (hm : ∀ x, (A x).length = m)
    (hx : ∀ x, pre x → (∃ ρ, F x = .ok (dat .none) ∧ Ex (WofE E) t (st0 (A x) (N.length - m)) (.nx ρ)) ∨ ∃ r ρ, F x = r ∧ Ex (WofE E) t (st0 (A x) (N.length - m)) (r.out ρ)) : t { nx := fun _ H' => Q .non H', rt := Q } (L2.start N vs) H :=
  h.runN (N := N) hm fun x p => by
    rcases hx x p with ⟨ρ, e, ex⟩ | ⟨r, ρ, e, ex⟩
    · exact ⟨ρ, .inl ⟨e, ex⟩⟩
    · exact ⟨ρ, .inr (by rw [e]; exact ex)⟩
end Z

set_option Elab.async false
set_option linter.all false
set_option maxRecDepth 100000
set_option maxHeartbeats 2000000
/-! Zk: the rules that name the written part, with its name handed over. -/
namespace Z
open PySem PySem.Spec PyProof.Rows L2
section
variable (K : PySem.W.Frag) {X : Cx}
theorem kix_list (h : X.K = K := by rfl) : IxR X (rIxL K) := by subst h; exact ix_list
theorem kix_tup (h : X.K = K := by rfl) : IxR X (rIxT K) := by subst h; exact ix_tup
theorem ksl_list (h : X.K = K := by rfl) : SlR X (rSlL K) := by subst h; exact sl_list
theorem ksl_tup (h : X.K = K := by rfl) : SlR X (rSlT K) := by subst h; exact sl_tup
theorem kop_in (h : X.K = K := by rfl) : OpR X (compareOp .In) (rIn K false) := by subst h; exact op_in_seq
theorem kop_notIn (h : X.K = K := by rfl) : OpR X (compareOp .NotIn) (rIn K true) := by subst h; exact op_notIn_seq
theorem kop_eqD (hu : X.A.units + 64 < cLine) (h : X.K = K := by rfl) : OpR X (compareOp .Eq) (rEqD K) := by subst h; exact op_eqD hu
theorem kop_neD (hu : X.A.units + 64 < cLine) (h : X.K = K := by rfl) : OpR X (compareOp .NotEq) (rNeD K) := by subst h; exact op_neD hu
theorem kcall_len (h : X.K = K := by rfl) : CallR X (.builtin "len") (cLen K) := by subst h; exact call_len_seq
theorem kcall_list (h : X.K = K := by rfl) : CallR X (.type "list") (cList K) := by subst h; exact call_list_of
theorem kcall_sum (hc : X.calm = true) (h : X.K = K := by rfl) : CallR X (.builtin "sum") (rSum K) := by subst h; exact cr_sum hc
theorem kcall_any (hc : X.calm = true) (h : X.K = K := by rfl) : CallR X (.builtin "any") (rAny K) := by subst h; exact cr_any hc
theorem kcall_all (hc : X.calm = true) (h : X.K = K := by rfl) : CallR X (.builtin "all") (rAll K) := by subst h; exact cr_all hc
variable {tg l e : Expr} {tl te : TE} {ta : TA} {es elts : List Expr} {k kk n : Nat} {t : TGs} {pos p tpos : Pos} {f : Str}
theorem kpi_list (hl : PE X l tl) (h : X.K = K := by rfl) : PI X tg l (iList K tl) := by subst h; exact pi_list hl
theorem kpi_tup (hl : PE X l tl) (h : X.K = K := by rfl) : PI X tg l (iTup K tl) := by subst h; exact pi_tup hl
theorem kpi_enum (hg : Gl X "enumerate") (hm : X.mg "enumerate" = none) (ha : PA X [e] ta) (hs : starEach [e] X.env = [(false, eval e X.env)] := by rfl) (h : X.K = K := by rfl) : PI X (.Tuple elts kk tpos) (.Call (.Name "enumerate" p) [e] [] pos) (iEnum K ta) := by
  subst h; exact pi_enum hg hm ha hs
theorem kpg_tup (hc : X.calm = true) (hp : PGs X es t) (hn : (assignEach es X.env).length = n := by rfl) (hst : (assignEach es X.env).findIdx? (·.1) = none := by rfl) (h : X.K = K := by rfl) : PG X (.Tuple es k pos) (gTup K n t) := by
  subst h; exact pg_tup hc hp hn hst
theorem kps_fld {value o : Expr} {ta tv : TE} {pos' : Pos} (ho : PE X o ta) (hv : PE X value tv) (hs : swapsWith value (some (.Attribute o f pos')) pos.line X.env = pure false) (h : X.K = K := by rfl) : PS X (.Assign [.Attribute o f pos'] value pos) (sFld K ta tv f) := by subst h; exact ps_fld ho hv hs
theorem kpe_fld (he : PE X e te) (hb : attributeBase e f X.env (eval e X.env) = eval e X.env) (h : X.K = K := by rfl) : PE X (.Attribute e f pos) (tFld K te f) := by subst h; exact pe_fld he hb
end
end Z

set_option Elab.async false
set_option linter.all false
set_option maxRecDepth 100000
set_option maxHeartbeats 2000000
/-! Zl: makes and methods in a try. -/
namespace Z
open PySem PySem.Spec PyProof.Rows L2
section
variable {K : PySem.W.Frag} {W : WX} {ρ ρ' ρ1 : List Sl} {te ta tb : TE} {t u : TS} {tr : TA} {R : Rp} {B : Bw} {o : Out} {i : Nat} {α : Type} {pre : α → Prop} {A : α → List Bw} {C D : Addr} {n : Int}
theorem ev_makeS {F : α → IRes} {E : L2.St → XK} {fs : List (Str × Rp)} (x : α) (ha : EvA tr ρ (A x)) (hp : pre x) (hF : F x = .ok fs) : Ev (tMakeS C (SpI C pre A F) E tr) ρ (pu (insR C fs)) := Ev.pure fun {G σ L0 H} Q s q => ha.at s fun G1 H1 vs L e1 sl la r => fun y dx hy hd hne => by
  have g := same_upd (o := .own y) (la.freshG hd)
  have l1 : Lay (upd G1 dx (.own y)) (L ++ L0) (upd H1 dx (.own y)) := la.grow hd
  have hy1 : upd H1 dx (.own y) y = none := by rw [upd_ne (fun z => hne z.symm)]; exact hy
  have ab : ∀ {vs : List V} {Bs : List Bw}, AllB G1 (L ++ L0) vs Bs → AllB (upd G1 dx (.own y)) (L ++ L0) vs Bs := fun {vs Bs} h => by
    induction h with
    | nil => exact .nil
    | cons h _ ih => exact .cons (Bw.up _ g (fun _ z => z) h) ih
  refine ⟨x, upd G1 dx (.own y), L ++ L0, y, dx, vs, hp, rfl, l1.cell hy1, ab r, ?_⟩
  rw [hF]
  refine fun G' H' dx' fv e2 l2 hfl => ⟨rfl, ?_⟩
  have hG : G' y = none := (l2.on _ (List.mem_cons_self ..)).2
  have e3 := same_upd (o := HO.ins C dx' fv) hG
  exact q _ H' (.ref y) ((e1.trans (g.trans e2)).trans e3) ⟨L, sl.up ((g.trans e2).trans e3), l2.freeze⟩ ⟨y, dx', fv, rfl, upd_same, hfl.up e3⟩
theorem ex_makeS {F : α → IRes} (x : α) (ha : EvA tr ρ (A x)) (hp : pre x) (hF : F x = .err D n) : EvX W (tMakeS C (SpI C pre A F) (WE W) tr) ρ D n := ⟨fun {G σ L0 H} Q s q => ha.at s fun G1 H1 vs L e1 sl la r => fun y dx hy hd hne => by
  have g := same_upd (o := .own y) (la.freshG hd)
  have l1 : Lay (upd G1 dx (.own y)) (L ++ L0) (upd H1 dx (.own y)) := la.grow hd
  have hy1 : upd H1 dx (.own y) y = none := by rw [upd_ne (fun z => hne z.symm)]; exact hy
  have ab : ∀ {vs : List V} {Bs : List Bw}, AllB G1 (L ++ L0) vs Bs → AllB (upd G1 dx (.own y)) (L ++ L0) vs Bs := fun {vs Bs} h => by
    induction h with
    | nil => exact .nil
    | cons h _ ih => exact .cons (Bw.up _ g (fun _ z => z) h) ih
  refine ⟨x, upd G1 dx (.own y), L ++ L0, y, dx, vs, hp, rfl, l1.cell hy1, ab r, ?_⟩
  rw [hF]
  exact fun G' H' d e2 l2 hd' => q G' H' d (e1.trans (g.trans e2)) ⟨L, sl.up (g.trans e2), l2⟩ hd'⟩
theorem ev_methSx {E : L2.St → XK} {F : α → Res} {fs : List (Str × Rp)} {m : Str} {B0 : α → Bw} (x : α) (h0 : Ev te ρ (pu (insR C fs))) (hm : fs.lookup m = none) (ha : EvA tr ρ (A x)) (hB : ∀ G L v, (insR C fs).p G v → (B0 x).p G L v) (hp : pre x) (hR : F x = .ok R) :
    Ev (tMethSx C m (SpA pre (fun x => B0 x :: A x) F) E te tr) ρ (pu R) := Ev.pure fun {G σ L0 H} Q s q => h0.atp s fun G0 H0 v e0 s0 r0 => by
  obtain ⟨a, dx, fv, rfl, hH, hfl⟩ := id r0
  refine ⟨a, dx, fv, rfl, s0.same _ _ hH, hfl.no hm, ?_⟩
  refine ha.at s0 fun G1 H1 vs L e1 sl la r => ?_
  refine ⟨x, G1, L ++ L0, hp, la, .cons (hB _ _ _ ((insR C fs).up e1 r0)) r, ?_⟩
  rw [hR]
  exact fun G2 H2 v e2 l2 rv => q G2 H2 v ((e0.trans e1).trans e2) ⟨L, sl.up e2, l2⟩ rv
theorem en_methSx {E : L2.St → XK} {F : α → Res} {fs : List (Str × Rp)} {m : Str} {B0 : α → Bw} {ds : List PyData} (x : α) (h0 : Ev te ρ (pu (insR C fs))) (hm : fs.lookup m = none) (ha : EvA tr ρ (A x)) (hB : ∀ G L v, (insR C fs).p G v → (B0 x).p G L v) (hp : pre x) (hR : F x = .own (oL ds)) :
    EvN (tMethSx C m (SpA pre (fun x => B0 x :: A x) F) E te tr) ρ ds := ⟨fun {G σ L0 H} Q s q => h0.atp s fun G0 H0 v e0 s0 r0 => by
  obtain ⟨a, dx, fv, rfl, hH, hfl⟩ := id r0
  refine ⟨a, dx, fv, rfl, s0.same _ _ hH, hfl.no hm, ?_⟩
  refine ha.at s0 fun G1 H1 vs L e1 sl la r => ?_
  refine ⟨x, G1, L ++ L0, hp, la, .cons (hB _ _ _ ((insR C fs).up e1 r0)) r, ?_⟩
  rw [hR]
  intro G2 H2 a2 cs e2 l2 ro
  obtain ⟨ws, hcs, d⟩ := ro
  subst hcs
  obtain ⟨H3, hn3, rfl, l3⟩ := Lay.uncell l2
  exact q G2 H3 _ ws ((e0.trans e1).trans e2) ⟨L, sl.up e2, l3⟩ hn3 d⟩
theorem ex_methSx {F : α → Res} {fs : List (Str × Rp)} {m : Str} {B0 : α → Bw} (x : α) (h0 : Ev te ρ (pu (insR C fs))) (hm : fs.lookup m = none) (ha : EvA tr ρ (A x)) (hB : ∀ G L v, (insR C fs).p G v → (B0 x).p G L v) (hp : pre x) (hR : F x = .err D n) :
    EvX W (tMethSx C m (SpA pre (fun x => B0 x :: A x) F) (WE W) te tr) ρ D n := ⟨fun {G σ L0 H} Q s q => h0.atp s fun G0 H0 v e0 s0 r0 => by
  obtain ⟨a, dx, fv, rfl, hH, hfl⟩ := id r0
  refine ⟨a, dx, fv, rfl, s0.same _ _ hH, hfl.no hm, ?_⟩
  refine ha.at s0 fun G1 H1 vs L e1 sl la r => ?_
  refine ⟨x, G1, L ++ L0, hp, la, .cons (hB _ _ _ ((insR C fs).up e1 r0)) r, ?_⟩
  rw [hR]
  exact fun G2 H2 d e2 l2 hd => q G2 H2 d ((e0.trans e1).trans e2) ⟨L, sl.up e2, l2⟩ hd⟩
end
end Z

set_option Elab.async false
set_option linter.all false
set_option maxRecDepth 100000
set_option maxHeartbeats 2000000
set_option exponentiation.threshold 4000
/-! Zm: data that may be compared, and shown. -/
namespace Z
open PySem PySem.Spec PyProof.Rows L2
/-- no strings' surprises, at most this deep -/
structure Sh (k : Nat) (d : PyData) : Prop where
  lay : d.canLay0 = true
  deep : d.depth ≤ k
theorem sh_int {k : Nat} {i : Int} : Sh k (.int i) := ⟨rfl, Nat.zero_le _⟩
theorem sh_bool {k : Nat} {b : Bool} : Sh k (.bool b) := ⟨rfl, Nat.zero_le _⟩
theorem sh_none {k : Nat} : Sh k .none := ⟨rfl, Nat.zero_le _⟩
theorem canAll {xs : List PyData} (h : ∀ x ∈ xs, x.canLay0 = true) : PyData.canLayAll0 xs = true := by
  induction xs with
  | nil => rfl
  | cons x xs ih =>
    rw [PyData.canLayAll0, h x (List.mem_cons_self ..), ih fun y hy => h y (List.mem_cons_of_mem _ hy)]; rfl
theorem deepAll {k : Nat} {xs : List PyData} (h : ∀ x ∈ xs, x.depth ≤ k) : PyData.depthAll xs ≤ k := by
  induction xs with
  | nil => exact Nat.zero_le _
  | cons x xs ih =>
    rw [PyData.depthAll]
    exact Nat.max_le.mpr ⟨h x (List.mem_cons_self ..), ih fun y hy => h y (List.mem_cons_of_mem _ hy)⟩
theorem sh_list {k : Nat} {xs : List PyData} (h : ∀ x ∈ xs, Sh k x) : Sh (k + 1) (.list xs) := ⟨by rw [PyData.canLay0]; exact canAll fun x hx => (h x hx).lay, by rw [PyData.depth]; exact Nat.succ_le_succ (deepAll fun x hx => (h x hx).deep)⟩
theorem sh_tup {k : Nat} {xs : List PyData} (h : ∀ x ∈ xs, Sh k x) : Sh (k + 1) (.tuple xs) := ⟨by rw [PyData.canLay0]; exact canAll fun x hx => (h x hx).lay, by rw [PyData.depth]; exact Nat.succ_le_succ (deepAll fun x hx => (h x hx).deep)⟩
theorem sh_nil {k : Nat} : ∀ x ∈ ([] : List PyData), Sh k x := fun x h => nomatch h
theorem sh_cons {k : Nat} {d : PyData} {ds : List PyData} (h : Sh k d) (t : ∀ x ∈ ds, Sh k x) : ∀ x ∈ d :: ds, Sh k x := fun x hx => by
  rcases List.mem_cons.mp hx with rfl | hx
  · exact h
  · exact t x hx
theorem sh_map {α : Type} {k : Nat} {f : α → PyData} {xs : List α} (h : ∀ x ∈ xs, Sh k (f x)) : ∀ y ∈ xs.map f, Sh k y := fun y hy => by
  obtain ⟨x, hx, rfl⟩ := List.mem_map.mp hy
  exact h x hx
theorem Sh.shaped {k : Nat} {d : PyData} (h : Sh k d) (hk : k ≤ 64 := by decide) : SeqAt.shaped d = true := by
  unfold SeqAt.shaped
  rw [h.lay, decide_eq_true (Nat.le_trans h.deep hk)]; rfl
theorem Sh.refl {k : Nat} {d : PyData} (h : Sh k d) : PyData.eqv d d = true := SeqAt.eqv_refl d h.lay
/-- what repr shows -/
structure Sm (k w : Nat) (d : PyData) : Prop where
  sh : Sh k d
  wt : d.weight ≤ w
  short : d.intsShort 13 = true
  show_ : d.showable = true
theorem sm_int {k : Nat} {i : Int} (h : i.natAbs < 10 ^ 12) : Sm k 40 (.int i) := by
  refine ⟨sh_int, ?_, ?_, ?_⟩
  · rw [PyData.weight]
    by_cases z : i = 0
    · rw [if_pos (by simpa using z)]; decide
    · rw [if_neg (by simpa using z)]
      have : i.natAbs.log2 < 40 := (Nat.log2_lt (by omega)).mpr (by omega)
      omega
  · rw [PyData.intsShort]; exact decide_eq_true (PyData.shown_int_le h)
  · rw [PyData.showable]
    refine decide_eq_true ?_
    by_cases z : i.natAbs = 0
    · rw [z]; decide
    · exact (Nat.log2_lt z).mpr (Nat.lt_trans h (Nat.lt_of_lt_of_le (show 10 ^ 12 < 2 ^ 40 by decide) (Nat.pow_le_pow_right (by decide) (by decide))))
theorem shortAll {xs : List PyData} (h : ∀ x ∈ xs, x.intsShort 13 = true) : PyData.intsShortAll 13 xs = true := by
  induction xs with
  | nil => rfl
  | cons x xs ih =>
    rw [PyData.intsShortAll, h x (List.mem_cons_self ..), ih fun y hy => h y (List.mem_cons_of_mem _ hy)]; rfl
theorem showAll {xs : List PyData} (h : ∀ x ∈ xs, x.showable = true) : PyData.showableAll xs = true := by
  induction xs with
  | nil => rfl
  | cons x xs ih =>
    rw [PyData.showableAll, h x (List.mem_cons_self ..), ih fun y hy => h y (List.mem_cons_of_mem _ hy)]; rfl
theorem wtAll {w : Nat} {xs : List PyData} (h : ∀ x ∈ xs, x.weight ≤ w) : PyData.weightAll xs ≤ xs.length * (w + 1) := by
  induction xs with
  | nil => exact Nat.zero_le _
  | cons x xs ih =>
    rw [PyData.weightAll, List.length_cons, Nat.succ_mul]
    have := h x (List.mem_cons_self ..)
    have := ih fun y hy => h y (List.mem_cons_of_mem _ hy)
    omega
theorem sm_list {k w W : Nat} {xs : List PyData} (h : ∀ x ∈ xs, Sm k w x) (hw : xs.length * (w + 1) ≤ W) : Sm (k + 1) W (.list xs) :=
  ⟨sh_list fun x hx => (h x hx).sh, by rw [PyData.weight]; exact Nat.le_trans (wtAll fun x hx => (h x hx).wt) hw, by rw [PyData.intsShort]; exact shortAll fun x hx => (h x hx).short, by rw [PyData.showable]; exact showAll fun x hx => (h x hx).show_⟩
theorem sm_tup {k w W : Nat} {xs : List PyData} (h : ∀ x ∈ xs, Sm k w x) (hw : xs.length * (w + 1) ≤ W) : Sm (k + 1) W (.tuple xs) :=
  ⟨sh_tup fun x hx => (h x hx).sh, by rw [PyData.weight]; exact Nat.le_trans (wtAll fun x hx => (h x hx).wt) hw, by rw [PyData.intsShort]; exact shortAll fun x hx => (h x hx).short, by rw [PyData.showable]; exact showAll fun x hx => (h x hx).show_⟩
theorem Sm.mono {k w k' w' : Nat} {d : PyData} (h : Sm k w d) (hk : k ≤ k') (hw : w ≤ w') : Sm k' w' d := ⟨⟨h.sh.lay, Nat.le_trans h.sh.deep hk⟩, Nat.le_trans h.wt hw, h.short, h.show_⟩
theorem sm_nil {k w : Nat} : ∀ x ∈ ([] : List PyData), Sm k w x := fun x h => nomatch h
theorem sm_cons {k w : Nat} {d : PyData} {ds : List PyData} (h : Sm k w d) (t : ∀ x ∈ ds, Sm k w x) : ∀ x ∈ d :: ds, Sm k w x := fun x hx => by
  rcases List.mem_cons.mp hx with rfl | hx
  · exact h
  · exact t x hx
theorem sm_map {α : Type} {k w : Nat} {f : α → PyData} {xs : List α} (h : ∀ x ∈ xs, Sm k w (f x)) : ∀ y ∈ xs.map f, Sm k w y := fun y hy => by
  obtain ⟨x, hx, rfl⟩ := List.mem_map.mp hy
  exact h x hx
theorem Sm.len {k w : Nat} {d : PyData} (h : Sm k w d) (hk : k ≤ 60) (hw : w ≤ 2 ^ 20) : d.shown.length ≤ sizeLine := by
  refine Nat.le_trans (shown_le13 ?_ h.short) (by decide)
  unfold PyData.layable0
  rw [h.sh.lay, decide_eq_true (Nat.le_trans h.sh.deep (Nat.le_trans hk (by decide))), decide_eq_true (Nat.le_trans h.wt hw)]; rfl
/-- repr of such data -/
theorem cl_repr {k w : Nat} {xs : List PyData} (h : Sm k w (.tuple xs)) (hk : k ≤ 60 := by decide) (hw : w ≤ 2 ^ 20 := by decide) : Cl cRepr [pu (dat (.tuple xs))] (dat (.str (PyData.shown (.tuple xs)))) := fun G H L vs Q l r q => by
  cases r with
  | cons h1 t =>
    cases t
    have h1 : Dq G _ (.tuple xs) := h1
    cases h1 with
    | @tup a ys _ hv d =>
      exact ⟨a, .tuple xs, rfl, dp_up l.same (Dq.tup hv d), h.show_, PyData.hasDict_of_canLay _ h.sh.lay, Nat.le_trans h.sh.deep hk, h.len hk hw, q _ (Dq.str _)⟩
end Z

set_option Elab.async false
set_option linter.all false
set_option maxRecDepth 100000
set_option maxHeartbeats 2000000
/-! Zn: the script. -/
namespace Z
open PySem PySem.Spec PyProof.Rows L2
section
variable {K : PySem.W.Frag} {ρ : List Sl} {te : TE}
theorem sqL_up {H H' : Hp} {a : Addr} {xs : List V} (e : Same H H') (h : SqL K H a xs) : SqL K H' a xs := by
  rcases h with (h | ⟨o, h⟩) | h
  · exact .inl (.inl (e _ _ h))
  · exact .inl (.inr ⟨o, e _ _ h⟩)
  · exact .inr h
/-- the script: whole numbers, wherever they stand -/
def scR (K : PySem.W.Frag) (xs : List Int) : Rp := ⟨fun G v => ∃ a, v = .ref a ∧ SqL K G a (xs.map V.int), fun e h => by
  obtain ⟨a, r, q⟩ := h
  exact ⟨a, r, sqL_up e q⟩⟩
theorem cl_lenS {xs : List Int} : Cl (cLen K) [pu (scR K xs)] (dI xs.length) := fun G H L vs Q l r q => by
  cases r with
  | cons h t =>
    cases t
    obtain ⟨a, rfl, hv⟩ := h
    refine ⟨a, _, rfl, .inl (sqL_up l.same hv), q _ ?_⟩
    rw [List.length_map]
    exact Dq.int _
theorem atI_V {α : Type} {en : α → V} {xs : List α} {i : Int} {x : α} (h0 : 0 ≤ i) (h : xs[i.toNat]? = some x) : atI (xs.map en) i = some (en x) := by
  obtain ⟨hl, rfl⟩ := List.getElem?_eq_some_iff.mp h
  unfold atI ixN
  rw [if_pos h0, if_pos (by rw [List.length_map]; omega)]
  show (xs.map en)[i.toNat]? = _
  rw [List.getElem?_map, h]
  rfl
theorem o_ixS {xs : List Int} {i x : Int} (h0 : 0 ≤ i) (h : xs[i.toNat]? = some x) : Op2 (rIxL K) (pu (scR K xs)) (pu (dI i)) (dI x) := fun G H L v y Q l hx hy q => by
  obtain ⟨a, rfl, hv⟩ := hx
  cases hy
  exact ⟨a, _, i, _, rfl, rfl, sqL_up l.same hv, atI_V h0 h, q _ (Dq.int _)⟩
theorem ev_sS {xs : List Int} (h : Ev te ρ (pu (scR K xs))) : EvS K te ρ (xs.map .int) := ⟨fun Q s q => h.atp s fun G' H' v e s' r => by
  obtain ⟨a, rfl, hv⟩ := r
  exact q G' H' a _ e s' (fun G'' L'' H'' e2 l => sqL_up l.same (sqL_up e2 hv)) (dpAll_of_ints xs)⟩
end
theorem o_eqS {a b : Str} : Op2 rEq (pu (dat (.str a))) (pu (dat (.str b))) (dB (decide (a = b))) := fun G H L x y Q _ hx hy q => by
  cases hx; cases hy
  refine ⟨rfl, q _ ?_⟩
  have e : decide (V.str a = V.str b) = decide (a = b) := by rw [Bool.eq_iff_iff]; simp
  rw [e]
  exact Dq.bl _
theorem o_neS {a b : Str} : Op2 rNe (pu (dat (.str a))) (pu (dat (.str b))) (dB (!decide (a = b))) := fun G H L x y Q _ hx hy q => by
  cases hx; cases hy
  refine ⟨rfl, q _ ?_⟩
  have e : decide (V.str a = V.str b) = decide (a = b) := by rw [Bool.eq_iff_iff]; simp
  rw [e]
  exact Dq.bl _
/-- an error of the class at C is what «except S» names -/
theorem exm_of {K : PySem.W.Frag} {C S : Addr} (h1 : PySem.W.subIn K (.ref S) (.type "BaseException") = some true) (h2 : PySem.W.isClsIn K S = true) (h3 : PySem.W.typeIn K (.ref S) = some (.type "type")) (h4 : PySem.W.subIn K (.ref C) (.ref S) = some true) :
    PySem.W.exmOne K (.ref C) (.ref S) = some true := by
  have e1 : (PySem.W.subIn K (.ref S) (.type "BaseException") == some true) = true := by rw [h1] <;> rfl
  have e2 : ((PySem.W.clsIn K S).isSome && PySem.W.typeIn K (.ref S) == some (.type "type")) = true := by
    have h2' : (PySem.W.clsIn K S).isSome = true := h2
    rw [h2', h3] <;> rfl
  show (if (PySem.W.subIn K (.ref S) (.type "BaseException") == some true) = true then (if ((PySem.W.clsIn K S).isSome && PySem.W.typeIn K (.ref S) == some (.type "type")) = true then PySem.W.subIn K (.ref C) (.ref S) else none) else none) = some true
  rw [if_pos e1, if_pos e2]
  exact h4
theorem room64 {k : Nat} {A : Around} (r : Room k A) : A.units + 64 < cLine := by have := r.un; omega
theorem room70 {k : Nat} {A : Around} (r : Room k A) : A.units + 70 < cLine := by have := r.un; omega
end Z

set_option Elab.async false
set_option linter.all false
set_option maxRecDepth 100000
set_option maxHeartbeats 2000000
/-! Zo: statements that end in some of several ways; loops by an invariant. -/
namespace Z
open PySem PySem.Spec PyProof.Rows L2
structure ExS (W : WX) (ts : TS) (ρ : List Sl) (S : Out → Prop) : Prop where
  run : ∀ {G : Hp} {σ : L2.St} {L0 : List Cell} {H : Hp} (D : Ends), Stt G ρ σ L0 H → (∀ o, S o → Post W D G L0 o) → ts D σ H
section
variable {K : PySem.W.Frag} {W : WX} {ρ ρ' ρ1 : List Sl} {te ta tb : TE} {t u : TS} {tr : TA} {R : Rp} {B : Bw} {o : Out} {i : Nat} {S S' S1 : Out → Prop}
theorem ExS.of (h : Ex W t ρ o) (k : S o) : ExS W t ρ S := ⟨fun D s q => h.run D s (q o k)⟩
theorem ExS.ex (h : ExS W t ρ (fun o' => o' = o)) : Ex W t ρ o := ⟨fun D s q => h.run D s fun o' e => by rw [e]; exact q⟩
theorem ExS.imp (h : ExS W t ρ S) (k : ∀ o, S o → S' o) : ExS W t ρ S' := ⟨fun D s q => h.run D s fun o p => q o (k o p)⟩
theorem ExS.seq (h : Ex W t ρ (.nx ρ1)) (k : ExS W u ρ1 S) : ExS W (tSeq t u) ρ S := ⟨fun D s q => h.run { D with nx := u D } s fun G' σ' H' e s' => k.run D s' fun o p => (q o p).mono e⟩
theorem Post.seqE {D : Ends} {G : Hp} {L0 : List Cell} {N : L2.St → Hp → Prop} (k : o.ends = true) (q : Post W D G L0 o) : Post W { D with nx := N } G L0 o := by
  cases o with
  | nx _ => cases k
  | go _ => cases k
  | bk _ => exact q
  | ct _ => exact q
  | rt _ => exact q
  | ro _ => exact q
  | xc _ _ _ => exact q
theorem ExS.seqS (h : ExS W t ρ S1) (k : ∀ o, S1 o → (∃ ρ1, o = .nx ρ1 ∧ ExS W u ρ1 S) ∨ (o.ends = true ∧ S o)) : ExS W (tSeq t u) ρ S := ⟨fun D s q => h.run { D with nx := u D } s fun o p => by
  rcases k o p with ⟨ρ1, rfl, h2⟩ | ⟨he, hs⟩
  · exact fun G' σ' H' e s' => h2.run D s' fun o p => (q o p).mono e
  · exact (q o hs).seqE he⟩
theorem ExS.seqX (h : Ex W t ρ o) (k : o.ends = true) (hs : S o) : ExS W (tSeq t u) ρ S := ExS.of (h.seqE k) hs
theorem ExS.ife {tc : TT} {b : Bool} (hc : EvT tc ρ b) (h1 : b = true → ExS W t ρ S) (h2 : b = false → ExS W u ρ S) : ExS W (tIfS tc t u) ρ S := ⟨fun D s q => hc.run _ s fun G1 H1 e1 s1 => by
  cases b with
  | true => exact (h1 rfl).run D s1 fun o p => (q o p).mono e1
  | false => exact (h2 rfl).run D s1 fun o p => (q o p).mono e1⟩
theorem ExS.ite {v : TS} {tc : TT} {b : Bool} (hc : EvT tc ρ b) (h1 : b = true → ExS W (tSeq t v) ρ S) (h2 : b = false → ExS W (tSeq u v) ρ S) : ExS W (tSeq (tIfS tc t u) v) ρ S := ⟨fun D s q => hc.run _ s fun G1 H1 e1 s1 => by
  cases b with
  | true => exact (h1 rfl).run D s1 fun o p => (q o p).mono e1
  | false => exact (h2 rfl).run D s1 fun o p => (q o p).mono e1⟩
theorem ExS.skip (h : ExS W u ρ S) : ExS W (tSeq tNext u) ρ S := ExS.seq Ex.next h
theorem ExS.from_ {ρ'} (e : ρ' = ρ) (h : ExS W t ρ' S) : ExS W t ρ S := by rw [← e]; exact h
theorem ExS.weak (w : Wk ρ ρ') (h : ExS W t ρ' S) : ExS W t ρ S := ⟨fun D s q => by
  obtain ⟨G2, e2, s2⟩ := s.weak w
  exact h.run D s2 fun o p => (q o p).mono e2⟩
theorem ExS.freeze {ds : List PyData} (i : Nat) (hi : ρ[i]? = some (.o (oL ds))) (h : ExS W t (ρ.set i (.p (dat (.list ds)))) S) : ExS W t ρ S := ⟨fun {G σ L0 H} D s q => by
  obtain ⟨a, cs, e, ⟨vs, hcs, d⟩, hh, k1, k2⟩ := s.get_o hi
  subst hcs
  obtain ⟨G2, e2, s2⟩ := k2 (dat (.list ds)) fun G' e' hc => Dq.lst (hc (a, .lst vs) (List.mem_cons_self ..)) (dpAll_up e' d)
  exact h.run D s2 fun o p => (q o p).mono e2⟩
theorem ExS.open_ {α : Type} {P : α → Prop} {F : α → Rp} (i : Nat) (hi : ρ[i]? = some (.p (exR P F))) (h : ∀ x, P x → ExS W t (ρ.set i (.p (F x))) S) : ExS W t ρ S := ⟨fun D s q => by
  obtain ⟨L, sl, la⟩ := s
  obtain ⟨x, p, sl'⟩ := sl.open_ hi
  exact (h x p).run D ⟨L, sl', la⟩ q⟩
/-- told less exactly -/
theorem Ex.rtW {R' : Rp} (h : Ex W t ρ (.rt R)) (k : ∀ G v, R.p G v → R'.p G v) : Ex W t ρ (.rt R') := ⟨fun D s q => h.run D s fun G' ρ' σ' H' v e s' r => q G' ρ' σ' H' v e s' (k _ _ r)⟩
theorem Ex.roW {O O' : Op} (h : Ex W t ρ (.ro O)) (k : ∀ G a cs, O.p G a cs → O'.p G a cs) : Ex W t ρ (.ro O') := ⟨fun D s q => h.run D s fun G' H' a cs e l r => q G' H' a cs e l (k _ _ _ r)⟩
/-! ### owned things of which some is told -/
def exO {α : Type} (P : α → Prop) (F : α → Op) : Op := ⟨fun G a cs => ∃ x, P x ∧ (F x).p G a cs, fun e h => by
  obtain ⟨x, p, q⟩ := h
  exact ⟨x, p, (F x).up e q⟩⟩
/-! ### loops -/
theorem ExS.forI {α Sx : Type} {wi : TI} {g : TG} {tb : TS} {xs : List α} {en : α → PyData} (E : Sx → List Sl) (I : List α → Sx → Prop) {s0 : Sx} (hi : EvI K wi ρ (xs.map en)) (h0 : Wk ρ (E s0)) (i0 : I [] s0)
    (hb : ∀ pre x post s, xs = pre ++ x :: post → I pre s → ∃ T ρ1, EvG g T (E s) (dat (en x)) ρ1 ∧ ExS W tb ρ1 (fun o => (∃ s', I (pre ++ [x]) s' ∧ o = .go (E s')) ∨ (o.leaves = true ∧ S (unbk o))))
    (hf : ∀ s, I xs s → S (.nx (E s))) : ExS W (tFor wi g tb) ρ S := ⟨fun {G σ L0 H} D s q => hi.run _ s fun G1 H1 J e1 s1 gv => by
  obtain ⟨G2, e2, s2⟩ := s1.weak h0
  refine ⟨fun i m σ H => m = xs.length - i ∧ i ≤ xs.length ∧ ∃ s G', I (xs.take i) s ∧ Same G2 G' ∧ Stt G' (E s) σ L0 H, ⟨xs.length, by simp, Nat.zero_le _, s0, G2, i0, Same.refl _, s2⟩, ?_⟩
  rintro i m σ' H' ⟨rfl, hi, s', G', hr, e3, s3⟩
  obtain ⟨L3, sl3, la3⟩ := id s3
  have e13 : Same G1 G' := e2.trans e3
  by_cases hlt : i < xs.length
  · right
    have hx : xs[i]? = some xs[i] := List.getElem?_eq_getElem hlt
    have hsplit : xs = xs.take i ++ xs[i] :: xs.drop (i + 1) := by
      rw [List.getElem_cons_drop, List.take_append_drop]
    have htk : xs.take (i + 1) = xs.take i ++ [xs[i]] := by rw [List.take_add_one, hx]; rfl
    obtain ⟨T, ρ1, hg, hbody⟩ := hb _ _ _ s' hsplit hr
    obtain ⟨g1, g2⟩ := gv.go i G' L3 H' e13 la3 (by simpa using hlt)
    refine ⟨g1, fun σ'' H'' => ∃ s G', I (xs.take (i + 1)) s ∧ Same G2 G' ∧ Stt G' (E s) σ'' L0 H'', fun σ'' H'' ⟨s, G'', a, b, c⟩ => ⟨xs.length - (i + 1), by omega, rfl, hlt, s, G'', a, b, c⟩, fun x H4 y => ?_⟩
    obtain ⟨G4, e4, l4, d4⟩ := g2 x H4 y
    have d4 : Dq G4 x (en xs[i]) := by simpa using d4
    have s4 : Stt G4 (E s') σ' L0 H4 := ⟨L3, sl3.up e4, l4 _ la3⟩
    refine hg.run x _ s4 d4 fun G5 σ5 H5 e5 s5 _ => ?_
    have e25 : Same G2 G5 := (e3.trans e4).trans e5
    refine hbody.run _ s5 fun o ho => ?_
    rcases ho with ⟨s6, i6, rfl⟩ | ⟨hl, hs⟩
    · have k : ∀ G6 σ6 H6, Same G5 G6 → Stt G6 (E s6) σ6 L0 H6 → ∃ s G', I (xs.take (i + 1)) s ∧ Same G2 G' ∧ Stt G' (E s) σ6 L0 H6 := fun G6 σ6 H6 e6 st => ⟨s6, G6, by rw [htk]; exact i6, e25.trans e6, st⟩
      exact ⟨k, k⟩
    · have q := (q _ hs).mono (e1.trans (e2.trans e25))
      cases o with
      | nx _ => cases hl
      | go _ => cases hl
      | ct _ => cases hl
      | bk _ => exact q
      | rt _ => exact q
      | ro _ => exact q
      | xc _ _ _ => exact q
  · left
    have e : i = xs.length := by omega
    subst e
    rw [List.take_length] at hr
    exact ⟨gv.stop _ G' L3 H' e13 la3 (by simp), q _ (hf s' hr) G' σ' H' (e1.trans e13) s3⟩⟩
theorem ExS.whileI {Sx : Type} {tc : TT} {tb : TS} (E : Sx → List Sl) (I : Sx → Prop) (μ : Sx → Nat) (b : Sx → Bool) {s0 : Sx} (h0 : Wk ρ (E s0)) (i0 : I s0)
    (ht : ∀ s, I s → EvT tc (E s) (b s))
    (hb : ∀ s, I s → b s = true → ExS W tb (E s) (fun o => (∃ s', I s' ∧ μ s' < μ s ∧ o = .go (E s')) ∨ (o.leaves = true ∧ S (unbk o))))
    (hf : ∀ s, I s → b s = false → S (.nx (E s))) : ExS W (tWhile tc tb) ρ S := ⟨fun {G σ L0 H} D s q => by
  obtain ⟨G2, e2, s2⟩ := s.weak h0
  refine ⟨fun m σ H => ∃ s G', I s ∧ μ s = m ∧ Same G2 G' ∧ Stt G' (E s) σ L0 H, ⟨_, s0, G2, i0, rfl, Same.refl _, s2⟩, ?_⟩
  rintro m σ' H' ⟨s', G', hi, rfl, e3, s3⟩
  refine (ht s' hi).run _ s3 fun G5 H5 e5 s5 => ?_
  have e25 : Same G2 G5 := e3.trans e5
  cases hbb : b s' with
  | true =>
    rw [if_pos rfl]
    refine ⟨fun σ'' H'' => ∃ s G', I s ∧ μ s < μ s' ∧ Same G2 G' ∧ Stt G' (E s) σ'' L0 H'', fun σ'' H'' ⟨s, G'', a, b, c, d⟩ => ⟨μ s, b, s, G'', a, rfl, c, d⟩, ?_⟩
    refine (hb s' hi hbb).run _ s5 fun o ho => ?_
    rcases ho with ⟨s6, i6, m6, rfl⟩ | ⟨hl, hs⟩
    · have k : ∀ G6 σ6 H6, Same G5 G6 → Stt G6 (E s6) σ6 L0 H6 → ∃ s G', I s ∧ μ s < μ s' ∧ Same G2 G' ∧ Stt G' (E s) σ6 L0 H6 := fun G6 σ6 H6 e6 st => ⟨s6, G6, i6, m6, e25.trans e6, st⟩
      exact ⟨k, k⟩
    · have q := (q _ hs).mono (e2.trans e25)
      cases o with
      | nx _ => cases hl
      | go _ => cases hl
      | ct _ => cases hl
      | bk _ => exact q
      | rt _ => exact q
      | ro _ => exact q
      | xc _ _ _ => exact q
  | false =>
    rw [if_neg (by decide)]
    exact q _ (hf s' hi hbb) G5 _ H5 (e2.trans e25) s5⟩
end
end Z

set_option Elab.async false
set_option linter.all false
set_option maxRecDepth 100000
set_option maxHeartbeats 2000000
/-! Zp: texts. -/
namespace Z
open PySem PySem.Spec PyProof.Rows L2
section
variable {K : PySem.W.Frag} {W : WX} {ρ ρ' : List Sl} {te ta tb to : TE} {R : Rp} {B : Bw} {i j : Nat}
def dS (x : Str) : Rp := dat (.str x)
abbrev rAddS : R2 := fun x y H Q => ∃ i j, x = .str i ∧ y = .str j ∧ i.length + j.length ≤ sizeLine ∧ Q (.str (i ++ j)) H
theorem o_addS {a b : Str} (h : a.length + b.length ≤ sizeLine) : Op2 rAddS (pu (dat (.str a))) (pu (dat (.str b))) (dat (.str (a ++ b))) := fun G H L x y Q _ hx hy q => by
  cases hx; cases hy
  exact ⟨a, b, rfl, rfl, h, q _ (Dq.str _)⟩
abbrev cStrI : List V → Hp → VK → Prop := fun xs H Q => ∃ i, xs = [.int i] ∧ i.natAbs.log2 < 1920 ∧ Q (.str (toString i)) H
theorem cl_strI {n : Int} (h : n.natAbs.log2 < 1920) : Cl cStrI [pu (dI n)] (dat (.str (Str.ofString (toString n)))) := fun G H L vs Q l r q => by
  cases r with
  | cons h1 t =>
    cases t; cases h1
    exact ⟨n, rfl, h, q _ (Dq.str _)⟩
abbrev cIntS : List V → Hp → VK → Prop := fun xs H Q => ∃ a n, xs = [.str a] ∧ PySem.intText? a = some n ∧ a.length ≤ 640 ∧ Q (.int n) H
theorem cl_intS {a : Str} {n : Int} (h : PySem.intText? a = some n) (hl : a.length ≤ 640) : Cl cIntS [pu (dat (.str a))] (dI n) := fun G H L vs Q l r q => by
  cases r with
  | cons h1 t =>
    cases t; cases h1
    exact ⟨a, n, rfl, h, hl, q _ (Dq.int _)⟩
abbrev cLenS : List V → Hp → VK → Prop := fun xs H Q => ∃ z, xs = [.str z] ∧ z.length ≤ sizeLine ∧ Q (.int z.length) H
theorem cl_lenStr {a : Str} (hl : a.length ≤ sizeLine) : Cl cLenS [pu (dat (.str a))] (dI a.length) := fun G H L vs Q l r q => by
  cases r with
  | cons h1 t =>
    cases t; cases h1
    exact ⟨a, rfl, hl, q _ (Dq.int _)⟩
abbrev rJoin (K : PySem.W.Frag) : V → List V → Hp → VK → Prop := fun x xs H Q => ∃ a p, ∃ ys : List Str, x = .str a ∧ xs = [.ref p] ∧ (SqL K H p (ys.map V.str) ∨ SqT K H p (ys.map V.str)) ∧ (ys.map (·.length)).sum + ys.length * a.length ≤ 16777216 ∧ Q (.str (Txt.join a ys)) H
abbrev rSplit : V → List V → Hp → VK → Prop := fun x xs H Q => ∃ a b, x = .str a ∧ xs = [.str b] ∧ (b.length == 0) = false ∧ a.length + 2 ≤ sizeLine ∧ rNewStrs (Txt.split a b) H Q
theorem dqAll_strs {G : Hp} : ∀ {vs : List V} {ys : List Str}, DqAll G vs (ys.map PyData.str) → vs = ys.map V.str
  | _, [], h => by cases h; rfl
  | _, y :: ys, h => by
    cases h with
    | cons h1 h2 =>
      cases h1
      rw [dqAll_strs h2]; rfl
theorem dqAll_of_strs {G : Hp} : ∀ (ys : List Str), DqAll G (ys.map V.str) (ys.map PyData.str)
  | [] => .nil
  | y :: ys => .cons (.str y) (dqAll_of_strs ys)
theorem ev_join {a : Str} {ys : List Str} (h : Ev to ρ (pu (dat (.str a)))) (h1 : Ev te ρ (bL (ys.map .str))) (hz : (ys.map (·.length)).sum + ys.length * a.length ≤ 16777216) : Ev (tM1 (rJoin K) to te) ρ (pu (dat (.str (Txt.join a ys)))) := Ev.pure fun Q s q => h.atp s fun G1 H1 v e1 s1 r1 => by
  cases r1
  refine ⟨⟨a, rfl⟩, h1.run _ s1 fun G2 H2 y e2 s2 r2 => ?_⟩
  obtain ⟨L, sl, la⟩ := id s2
  obtain ⟨p, vs, rfl, hv, d⟩ := bl_sq la (r2 G2 L H2 (Same.refl _) sl la)
  have e := dqAll_strs d
  subst e
  exact ⟨a, p, ys, rfl, rfl, .inl (.inl (.inl hv)), hz, q _ _ _ (e1.trans e2) s2 (Dq.str _)⟩
theorem en_split {a b : Str} (h : Ev to ρ (pu (dat (.str a)))) (h1 : Ev te ρ (pu (dat (.str b)))) (hb : (b.length == 0) = false) (hz : a.length + 2 ≤ sizeLine) : EvN (tM1 rSplit to te) ρ ((Txt.split a b).map .str) := ⟨fun Q s q => h.atp s fun G1 H1 v e1 s1 r1 => by
  cases r1
  refine ⟨⟨a, rfl⟩, h1.atp s1 fun G2 H2 y e2 s2 r2 => ?_⟩
  cases r2
  exact ⟨a, b, rfl, rfl, hb, hz, fun p hp => q G2 H2 p _ (e1.trans e2) s2 hp (dqAll_of_strs _)⟩⟩
abbrev rIs0 (f : Str → Bool) : V → List V → Hp → VK → Prop := fun x xs H Q => ∃ a, x = .str a ∧ xs = [] ∧ True ∧ Q (.bl (f a)) H
theorem ev_is0 {f : Str → Bool} {a : Str} (h : Ev to ρ (pu (dat (.str a)))) : Ev (tM0 (rIs0 f) to) ρ (pu (dB (f a))) := Ev.pure fun Q s q => h.atp s fun G1 H1 v e1 s1 r1 => by
  cases r1
  exact ⟨⟨a, rfl⟩, a, rfl, rfl, trivial, q _ _ _ e1 s1 (Dq.bl _)⟩
theorem o_ixStr {z : Str} {n : Int} {c : Nat} (hz : z.length ≤ sizeLine) (h : atI z.cps.toList n = some c) : Op2 rIxS (pu (dat (.str z))) (pu (dI n)) (dat (.str ⟨#[c]⟩)) := fun G H L x y Q _ hx hy q => by
  cases hx; cases hy
  exact ⟨z, n, c, rfl, rfl, hz, h, q _ (Dq.str _)⟩
theorem ev_slS {tl th : TO} {z : Str} {lo hi : Option Int} (h : Ev te ρ (pu (dat (.str z)))) (h1 : EvO tl ρ lo) (h2 : EvO th ρ hi) (hz : z.length ≤ sizeLine) : Ev (tSl rSlS te tl th) ρ (pu (dat (.str (cutS z lo hi)))) := Ev.pure fun Q s q =>
  h.atp s fun G1 H1 v e1 s1 r => h1.run _ s1 fun G2 H2 e2 s2 => h2.run _ s2 fun G3 H3 e3 s3 => by
    cases r
    exact ⟨z, rfl, hz, q _ _ _ ((e1.trans e2).trans e3) s3 (Dq.str _)⟩
theorem o_inS {c : Nat} {z : Str} : Op2 rInS (pu (dat (.str ⟨#[c]⟩))) (pu (dat (.str z))) (dB (decide (c ∈ z.cps.toList))) := fun G H L x y Q _ hx hy q => by
  cases hx; cases hy
  exact ⟨c, z, rfl, rfl, q _ (Dq.bl _)⟩
/-- a walk over a text's signs -/
theorem ei_str {z : Str} (h : Ev te ρ (pu (dat (.str z)))) : EvI K (iStr te) ρ (z.cps.toList.map fun c => .str ⟨#[c]⟩) := ⟨fun Q s q => h.atp s fun G' H' v e s' r => by
  cases r
  refine ⟨z, rfl, q G' H' (Its z) e s' ⟨fun i G L H e2 l hi => ⟨(show i < z.cps.size by simpa using hi), fun x H2 y => ?_⟩, fun i G L H e2 l hi => by show z.cps.size ≤ i; simpa using hi⟩⟩
  obtain ⟨rfl, c, hc, rfl⟩ := y
  refine ⟨G, Same.refl _, fun L l => l, ?_⟩
  have hi' : i < z.cps.size := by simpa using hi
  rw [Array.getElem?_eq_getElem hi'] at hc
  cases hc
  rw [List.getElem_map]
  simp only [Array.getElem_toList]
  exact Dq.str _⟩
/-! ### f-texts -/
inductive EvJ (ρ : List Sl) : List TE → List Str → Prop
  | nil : EvJ ρ [] []
  | cons {t : TE} {ts : List TE} {y : Str} {ys : List Str} (h : Ev t ρ (pu (dat (.str y)))) (r : EvJ ρ ts ys) : EvJ ρ (t :: ts) (y :: ys)
def gluS : Str → List Str → Str
  | acc, [] => acc
  | acc, y :: ys => gluS (acc ++ y) ys
theorem len_app (a b : Str) : (a ++ b).length = a.length + b.length := by
  show (a.cps ++ b.cps).size = a.cps.size + b.cps.size
  exact Array.size_append
theorem evJ_run {ts : List TE} {ys : List Str} (h : EvJ ρ ts ys) : ∀ (acc : Str) {G : Hp} {σ : L2.St} {L0 : List Cell} {H : Hp} (Q : Str → Hp → Prop), Stt G ρ σ L0 H → acc.length + (ys.map (·.length)).sum ≤ sizeLine → (∀ G' H', Same G G' → Stt G' ρ σ L0 H' → Q (gluS acc ys) H') → tJs ts acc σ H Q := by
  induction h with
  | nil => exact fun acc G σ L0 H Q s _ q => q G H (Same.refl _) s
  | @cons t ts y ys h1 _ ih =>
    intro acc G σ L0 H Q s hz q
    refine h1.atp s fun G1 H1 v e1 s1 r1 => ?_
    cases r1
    rw [List.map_cons, List.sum_cons] at hz
    have hl : (acc ++ y).length = acc.length + y.length := len_app acc y
    exact ⟨y, rfl, by omega, ih (acc ++ y) Q s1 (by omega) fun G' H' e' s' => q G' H' (e1.trans e') s'⟩
theorem ev_joined {ts : List TE} {ys : List Str} (h : EvJ ρ ts ys) (hz : (ys.map (·.length)).sum ≤ sizeLine) : Ev (fun σ H Q => tJs ts Str.empty σ H fun out H1 => Q (.str out) H1) ρ (pu (dat (.str (gluS Str.empty ys)))) := Ev.pure fun Q s q =>
  evJ_run h Str.empty _ s (by show 0 + _ ≤ _; omega) fun G' H' e s' => q _ _ _ e s' (Dq.str _)
theorem ev_fmtI {n : Int} (h : Ev te ρ (pu (dI n))) (hn : n.natAbs.log2 < 1920) : Ev (tFmt te) ρ (pu (dat (.str (Str.ofString (toString n))))) := Ev.pure fun Q s q => h.atp s fun G1 H1 v e1 s1 r1 => by
  cases r1
  exact .inr ⟨n, rfl, hn, q _ _ _ e1 s1 (Dq.str _)⟩
/-- x = l.pop(), l an owned list -/
theorem Ex.pop {ds : List PyData} {d : PyData} {T : String} (hi : ρ[i]? = some (.o (oL (ds ++ [d])))) (hT : T = "list") : Ex W (tAsg (tBM0 K T rPop (tVar i)) (gName j)) ρ (.nx ((ρ.set i (.o (oL ds))).set j (.p (dat d)))) := ⟨fun {G σ L0 H} D s q => by
  obtain ⟨a, cs, e, ⟨vs, hcs, hd⟩, hh, k1, _⟩ := s.get_o hi
  subst hcs
  refine ⟨_, e, .inl ⟨hT, vs, .inl (.inl (hh _ (List.mem_cons_self ..)))⟩, ?_⟩
  have hlen := dpAll_len hd
  rw [List.length_append] at hlen
  have hlen : vs.length = ds.length + 1 := hlen
  obtain ⟨y, hy, dy⟩ := dpAll_get (i := ds.length) hd (by rw [List.getElem?_append_right (Nat.le_refl _), Nat.sub_self]; rfl)
  refine ⟨a, vs, y, rfl, rfl, hh _ (List.mem_cons_self ..), by rw [hlen]; exact hy, ?_⟩
  have hd2 : DqAll G vs.dropLast ds := by
    have := dpAll_take ds.length hd
    rw [List.take_left] at this
    rw [List.dropLast_eq_take, hlen]
    exact this
  have s2 := k1 (oL ds) [(a, .lst vs.dropLast)] _ ⟨_, rfl, hd2⟩ fun M l => l.store
  obtain ⟨G2, e2, s3⟩ := s2.set_p (R := dat d) (v := y) dy j
  exact q _ _ _ e2 s3⟩
/-- tuple(l) -/
abbrev cTupOf (K : PySem.W.Frag) : List V → Hp → VK → Prop := fun xs H Q => ∃ p ys, xs = [.ref p] ∧ ((SqL K H p ys ∧ ∀ l, H l = none → Q (.ref l) (upd H l (.tup ys))) ∨ (SqT K H p ys ∧ Q (.ref p) H))
theorem ev_tupOf {ds : List PyData} (h : Ev te ρ (bL ds)) : Ev (tCB (cTupOf K) (tCons te tNil)) ρ (pu (dat (.tuple ds))) := Ev.pure fun Q s q => h.run _ s fun G1 H1 v e1 s1 r => by
  obtain ⟨L, sl, la⟩ := id s1
  obtain ⟨p, vs, rfl, hv, d⟩ := bl_sq la (r G1 L H1 (Same.refl _) sl la)
  refine ⟨p, vs, rfl, .inl ⟨.inl (.inl hv), fun l hl => ?_⟩⟩
  have g := s1.grow (o := .tup vs) hl
  exact q _ _ _ (e1.trans g.1) g.2 (Dq.tup upd_same (dpAll_up g.1 d))
/-- l.count(b), l a list of bools -/
def rCntB : V → List V → Hp → VK → Prop := fun x xs H Q => ∃ (p : Addr) (ns : List Bool) (k : Bool), x = .ref p ∧ xs = [.bl k] ∧ H p = some (.lst (ns.map V.bl)) ∧ Q (.int (countIn (.bool k) (ns.map PyData.bool))) H
theorem vals_bools {hp : Heap} : ∀ {ns : List Bool} {us : List Value}, Vals (ns.map V.bl) us → ∃ as, ReadsAll hp us (ns.map PyData.bool) as
  | [], _, r => by cases r; exact ⟨_, .nil⟩
  | n :: ns, _, r => by
    cases r with
    | cons r1 r2 =>
      cases r1
      obtain ⟨as, h⟩ := vals_bools (hp := hp) r2
      exact ⟨_, .cons (.bool n) h⟩
theorem mt_countB {X : Cx} : MtR X "list.count" rCntB := by
  intro pins s σ H x xs v us Q I rx rxs h
  obtain ⟨p, ns, k, rfl, rfl, hs, q⟩ := h
  cases rx
  obtain ⟨u, rfl, ru⟩ := rxs.one
  cases ru
  obtain ⟨z, its, n, r, hl, e⟩ := I.lstM hs
  obtain ⟨as, ra⟩ := vals_bools (hp := s.heap) r
  refine count_list_bools (l := p) (vs := its) ⟨_, e, rfl, _, rfl⟩ ra ?_ ?_
  · rw [List.all_eq_true]
    intro d hd
    obtain ⟨b, _, rfl⟩ := List.mem_map.mp hd
    rfl
  · exact ⟨.int _, H, I.tok _, ⟨_, rfl⟩, q⟩
theorem ev_cntB {ns : List Bool} {k : Bool} (h : Ev to ρ (bL (ns.map .bool))) : Ev (tBM K "list" rCntB to (tCons (tC (.bl k)) tNil)) ρ (pu (dI (countIn (.bool k) (ns.map PyData.bool)))) := Ev.pure fun Q s q => h.run _ s fun G1 H1 v e1 s1 r => by
  obtain ⟨L, sl, la⟩ := id s1
  obtain ⟨p, vs, rfl, hv, d⟩ := bl_sq la (r G1 L H1 (Same.refl _) sl la)
  have e := dpAll_bools d
  subst e
  exact ⟨.inl ⟨rfl, _, .inl (.inl hv)⟩, p, ns, k, rfl, rfl, hv, q _ _ _ e1 s1 (Dq.int _)⟩
theorem ev_idxB {ns : List Bool} {k : Bool} {j : Nat} (h : Ev to ρ (bL (ns.map .bool))) (hj : ns[j]? = some k) (hm : ∀ m b, m < j → ns[m]? = some b → b ≠ k) : Ev (tBM K "list" (rIndex K) to (tCons (tC (.bl k)) tNil)) ρ (pu (dI (j : Nat))) := Ev.pure fun Q s q => h.run _ s fun G1 H1 v e1 s1 r => by
  obtain ⟨L, sl, la⟩ := id s1
  obtain ⟨p, vs, rfl, hv, d⟩ := bl_sq la (r G1 L H1 (Same.refl _) sl la)
  have e := dpAll_bools d
  subst e
  refine ⟨.inl ⟨rfl, _, .inl (.inl hv)⟩, p, ns.map V.bl, .bl k, j, .bl k, rfl, rfl, .inl (.inl hv), rfl, ?_, by rw [List.getElem?_map, hj]; rfl, by cases k <;> rfl, fun m z hz e => ?_, q _ _ _ e1 s1 (Dq.int _)⟩
  · rw [List.all_eq_true]
    intro z hz
    obtain ⟨b, _, rfl⟩ := List.mem_map.mp hz
    rfl
  · rw [List.getElem?_map] at e
    cases hb : ns[m]? with
    | none => rw [hb] at e; cases e
    | some b =>
      rw [hb] at e
      have e : V.bl b = z := Option.some.inj e
      have hne := hm m b hz hb
      rw [← e]
      cases b <;> cases k <;> first | rfl | exact absurd rfl hne
/-- isinstance(x, T), x a number or a text -/
theorem cl_isS {x : Str} : Cl (rIsi K) [pu (dat (.str x)), pu ⟨fun _ v => v = .ty "str", fun _ h => h⟩] (dB true) := fun G H L vs Q l r q => by
  cases r with
  | cons h1 t =>
    cases t with
    | cons h2 t =>
      cases t; cases h1; cases h2
      exact ⟨_, _, .type "str", .type "str", true, rfl, .ty "str", .base (.str x), kit_ty rfl, q _ (Dq.bl _)⟩
theorem cl_isI {n : Int} : Cl (rIsi K) [pu (dI n), pu ⟨fun _ v => v = .ty "str", fun _ h => h⟩] (dB false) := fun G H L vs Q l r q => by
  cases r with
  | cons h1 t =>
    cases t with
    | cons h2 t =>
      cases t; cases h1; cases h2
      exact ⟨_, _, .type "int", .type "str", false, rfl, .ty "str", .base (.int n), kit_ty (by decide), q _ (Dq.bl _)⟩
theorem kcall_isi (K : PySem.W.Frag) {X : Cx} (h : X.K = K := by rfl) : CallR X (.builtin "isinstance") (rIsi K) := by subst h; exact call_isi
theorem kcall_tuple (K : PySem.W.Frag) {X : Cx} (h : X.K = K := by rfl) : CallR X (.type "tuple") (cTupOf K) := by subst h; exact call_tuple_of
theorem kmt_index (K : PySem.W.Frag) {X : Cx} (h : X.K = K := by rfl) : MtR X "list.index" (rIndex K) := by subst h; exact mt_index
theorem kpe_join (K : PySem.W.Frag) {X : Cx} {o e : Expr} {to te : TE} {apos pos : Pos} (ho : PE X o to) (he : PE X e te) (hs : starEach [e] X.env = [(false, eval e X.env)] := by rfl) (hbase : attributeBase o "join" X.env (eval o X.env) = eval o X.env := by rfl) (hline : (apos.endLine == pos.line) = true := by rfl) (h : X.K = K := by rfl) :
    PE X (.Call (.Attribute o "join" apos) [e] [] pos) (tM1 (rJoin K) to te) := by subst h; exact pe_join ho he hs hbase hline
/-- text * n -/
abbrev rMulS : R2 := fun x y H Q => ∃ a n, x = .str a ∧ y = .int n ∧ MulOk a n ∧ Q (.str (Txt.mul a n)) H
theorem op_mulS {X : Cx} : OpR X (binaryOp .Mult) rMulS := by
  intro pins s σ H x y v u Q I rx ry h
  obtain ⟨a, n, rfl, rfl, hok, q⟩ := h
  obtain ⟨t, rfl⟩ := rx
  obtain ⟨t', rfl⟩ := ry
  exact SB.mul hok fun t' k => ⟨.str (Txt.mul a n), H, I.tok _, ⟨_, rfl⟩, q⟩
theorem o_mulS {a : Str} {n : Int} (h : MulOk a n) : Op2 rMulS (pu (dat (.str a))) (pu (dI n)) (dat (.str (Txt.mul a n))) := fun G H L x y Q _ hx hy q => by
  cases hx; cases hy
  exact ⟨a, n, rfl, rfl, h, q _ (Dq.str _)⟩
end
end Z

set_option Elab.async false
set_option linter.all false
set_option maxRecDepth 100000
set_option maxHeartbeats 2000000
/-! Zq: lists taken apart, a list's truth, None in a list. -/
namespace Z
open PySem PySem.Spec PyProof.Rows L2
section
variable {K : PySem.W.Frag} {W : WX} {ρ ρ' : List Sl} {te ta tb to : TE} {R : Rp} {B : Bw} {i j : Nat}
theorem kpg_lst (K : PySem.W.Frag) {X : Cx} {es : List Expr} {k n : Nat} {t : TGs} {pos : Pos} (hc : X.calm = true) (hp : PGs X es t) (hn : (assignEach es X.env).length = n := by rfl) (hst : (assignEach es X.env).findIdx? (·.1) = none := by rfl) (h : X.K = K := by rfl) : PG X (.Tuple es k pos) (gLst K n t) := by
  subst h; exact pg_lst hc hp hn hst
theorem eg_lst {n : Nat} {gs : TGs} {T : List Nat} {ds : List PyData} (h : EvGs gs T ρ ds ρ') (hn : ds.length = n) : EvG (gLst K n gs) T ρ (dat (.list ds)) ρ' := ⟨fun v Q s r q => by
  have r : Dq _ v (.list ds) := r
  cases r with
  | lst a b => exact ⟨_, _, rfl, .inl (.inl (s.same _ _ a)), by rw [dpAll_len b]; exact hn, h.run _ Q s b q⟩⟩
abbrev tTruth (K : PySem.W.Frag) (te : TE) : TT := fun σ H Q => te σ H fun x H' => ∃ k, TruV K x H' k ∧ Q k H'
theorem et_truthL {ds : List PyData} (h : Ev te ρ (bL ds)) : EvT (tTruth K te) ρ (!ds.isEmpty) := ⟨fun Q s q => h.run _ s fun G1 H1 v e1 s1 r => by
  obtain ⟨L, sl, la⟩ := id s1
  obtain ⟨p, vs, rfl, hv, d⟩ := bl_sq la (r G1 L H1 (Same.refl _) sl la)
  refine ⟨!ds.isEmpty, .inl ⟨vs, .inl (.inl hv), ?_⟩, q _ _ e1 s1⟩
  cases d <;> rfl⟩
def oD : Option Int → PyData
  | none => .none
  | some n => .int n
theorem o_inNone {os : List (Option Int)} : Op2 (rIn K false) (pu (dat .none)) (bL (os.map oD)) (dB (os.any Option.isNone)) := fun G H L x y Q l hx hy q => by
  cases hx
  obtain ⟨p, vs, rfl, hv, d⟩ := bl_sq l hy
  have key : ∀ {vs : List V} {os : List (Option Int)}, DqAll G vs (os.map oD) → vs.all flatV = true ∧ inV .non vs = os.any Option.isNone := by
    intro vs os
    induction os generalizing vs with
    | nil => intro r; cases r; exact ⟨rfl, rfl⟩
    | cons o os ih =>
      intro r
      cases r with
      | cons r1 r2 =>
        have i2 := ih r2
        cases o with
        | none =>
          cases r1
          exact ⟨by rw [List.all_cons, i2.1, Bool.and_true]; rfl, rfl⟩
        | some n =>
          cases r1
          refine ⟨by rw [List.all_cons, i2.1, Bool.and_true]; rfl, ?_⟩
          show inV .non (V.int n :: _) = (false || os.any Option.isNone)
          rw [← i2.2]
          unfold inV
          rw [List.any_cons]
          rfl
  have k := key d
  exact ⟨p, vs, rfl, .inl (.inl (.inl hv)), rfl, k.1, by rw [if_neg (by decide), k.2]; exact q _ (Dq.bl _)⟩
theorem kpe_bm (K : PySem.W.Frag) {X : Cx} {o e : Expr} {es : List Expr} {to : TE} {t : TA} {name : Str} {apos cpos : Pos} {T id : String} {r : V → List V → Hp → VK → Prop} (pa : PlainAttrs T) (slot : Slot T name id) (hty : typeOf (.builtin id) = pure (.type "method_descriptor")) (hm : MtR X id r) (ho : PE X o to) (ha : PA X (e :: es) t)
    (h1 : attributeBase o name X.env (eval o X.env) = eval o X.env := by rfl) (h2 : ((backTo cpos (starEach (e :: es) X.env)).all (fun x => !x.1) && (backToKw cpos (keywordEach [] X.env)).all (fun x => x.1.isSome) && decide ((e :: es).length + ([] : List Keyword).length + (if ([] : List Keyword).isEmpty then 0 else 1) < 30)) = true := by rfl) (h3 : (apos.endLine == cpos.line) = true := by rfl)
    (h4 : starEach (e :: es) X.env = (false, eval e X.env) :: starEach es X.env := by rfl) (h5 : (backTo cpos (starEach es X.env)).any (·.1) = false := by rfl) (h : X.K = K := by rfl) : PE X (.Call (.Attribute o name apos) (e :: es) [] cpos) (tBM K T r to t) := by
  subst h; exact pe_bm pa slot hty hm ho ha h1 h2 h3 h4 h5
theorem ex_opL {C : Addr} {n : Int} {r : R2} (h : EvX W ta ρ C n) : EvX W (tOp r ta tb) ρ C n := ⟨fun Q s q => h.run _ s q⟩
theorem Ex.appendX {C : Addr} {n : Int} {ds : List PyData} {T : String} (hi : ρ[i]? = some (.o (oL ds))) (he : EvX W te ρ C n) (hT : T = "list") : Ex W (tDrop (tBM K T rAppend (tVar i) (tCons te tNil))) ρ (.xc ρ C n) := ⟨fun {G σ L0 H} D s q => by
  obtain ⟨a, cs, e, ⟨vs, hcs, hd⟩, hh, _⟩ := s.get_o hi
  subst hcs
  exact ⟨_, e, .inl ⟨hT, vs, .inl (.inl (hh _ (List.mem_cons_self ..)))⟩, he.run _ s fun G' H' d e s' hd => q G' _ H' d e s' hd⟩⟩
end
end Z

set_option Elab.async false
set_option linter.all false
set_option maxRecDepth 100000
set_option maxHeartbeats 2000000
/-! R: a text of the program as an object that carries its term, what it comes to as a plain function, and the proof. -/
namespace R
open PySem PySem.Spec PyProof.Rows L2 Z
/-- a value: data, the script, an instance whose fields are data -/
inductive Vl where
  | d (x : PyData) | s (xs : List Int) | i (C : Addr) (fs : List (Str × PyData))
abbrev Vl.int (n : Int) : Vl := .d (.int n)
abbrev Vl.bool (b : Bool) : Vl := .d (.bool b)
inductive Rs (α : Type) where
  | ok (a : α) | ex (C : Addr) (n : Int) | no
def Rs.bind {α β : Type} : Rs α → (α → Rs β) → Rs β
  | .ok a, f => f a
  | .ex C n, _ => .ex C n
  | .no, _ => .no
def Rs.of {α : Type} : Option α → Rs α
  | some a => .ok a
  | none => .no
inductive Av where
  | v (a : Vl) | l (ds : List PyData)
inductive Sv where
  | x | v (a : Vl) | bl (ds : List PyData) | ol (ds : List PyData) | er (a d : Addr) (n : Int) | oi (C a : Addr) (fs : List (Str × PyData))
section
variable (K : PySem.W.Frag)
def vr : Vl → Rp
  | .d x => dat x
  | .s xs => scR K xs
  | .i C fs => insR C (fs.map fun p => (p.1, dat p.2))
def bw : Av → Bw
  | .v a => pu (vr K a)
  | .l ds => bL ds
def sl : Sv → Sl
  | .x => .x
  | .v a => .p (vr K a)
  | .bl ds => .b (bL ds)
  | .ol ds => .o (oL ds)
  | .er a d n => .p (errR a d n)
  | .oi C a fs => .o (oI C a (fs.map fun p => (p.1, dat p.2)))
def sls (st : List Sv) : List Sl := st.map (sl K)
end
/-- where a text stands: E of the function, in a try, where nothing may be raised -/
inductive Md where
  | out (E : XK) | tr (W : WX) | qu
def Md.fits : Md → WX → Prop
  | .out E, W => W = WofE E
  | .tr W', W => W = W'
  | .qu, _ => True
def Md.loud : Md → Bool
  | .qu => false
  | _ => true
def EvXg {β : Type} (W : WX) (t : L2.St → Hp → β → Prop) (ρ : List Sl) (C : Addr) (n : Int) : Prop :=
  ∀ {G : Hp} {σ : L2.St} {L0 : List Cell} {H : Hp} (Q : β), Stt G ρ σ L0 H → (∀ G' H' d, Same G G' → Stt G' ρ σ L0 H' → H' d = none → W (.ref C) (some d) σ (upd H' d (atF n))) → t σ H Q
/-- what a text comes to: P where it is a value -/
def Cm {α β : Type} (md : Md) (t : L2.St → Hp → β → Prop) (ρ : List Sl) (P : α → Prop) : Rs α → Prop
  | .ok a => P a
  | .ex C n => md.loud = true → ∀ W, md.fits W → EvXg W t ρ C n
  | .no => True
structure XE (K : PySem.W.Frag) where
  te : Md → TE
  ev : List Sv → Rs Vl
  el : List Sv → Option (List PyData)
  es : List Sv → Option (List PyData)
  ok : ∀ md st, Cm md (te md) (sls K st) (fun a => Ev (te md) (sls K st) (pu (vr K a))) (ev st)
  okl : ∀ md st ds, el st = some ds → Ev (te md) (sls K st) (bL ds)
  oks : ∀ md st ds, es st = some ds → EvS K (te md) (sls K st) ds
structure XN (K : PySem.W.Frag) where
  te : Md → TE
  ev : List Sv → Rs (List PyData)
  ok : ∀ md st, Cm md (te md) (sls K st) (fun ds => EvN (te md) (sls K st) ds) (ev st)
structure XT (K : PySem.W.Frag) where
  tt : Md → TT
  ev : List Sv → Rs Bool
  ok : ∀ md st, Cm md (tt md) (sls K st) (fun b => EvT (tt md) (sls K st) b) (ev st)
structure XA (K : PySem.W.Frag) where
  ta : Md → TA
  ev : List Sv → Rs (List Av)
  ok : ∀ md st, Cm md (ta md) (sls K st) (fun as => EvA (ta md) (sls K st) (as.map (bw K))) (ev st)
structure XO (K : PySem.W.Frag) where
  to : Md → TO
  ev : List Sv → Rs (Option Int)
  ok : ∀ md st, Cm md (to md) (sls K st) (fun k => EvO (to md) (sls K st) k) (ev st)
structure XI (K : PySem.W.Frag) where
  ti : Md → TI
  ev : List Sv → Rs (List PyData)
  ok : ∀ md st, Cm md (ti md) (sls K st) (fun ds => EvI K (ti md) (sls K st) ds) (ev st)
def agree (T : List Nat) (st st' : List Sv) : Prop := st'.length = st.length ∧ ∀ j, j ∉ T → st'[j]? = st[j]?
structure XG (K : PySem.W.Frag) where
  tg : TG
  T : List Nat
  ev : PyData → List Sv → Option (List Sv)
  ok : ∀ d st st', ev d st = some st' → EvG tg T (sls K st) (dat d) (sls K st') ∧ agree T st st'
structure XGs (K : PySem.W.Frag) where
  tg : TGs
  n : Nat
  T : List Nat
  ev : List PyData → List Sv → Option (List Sv)
  ok : ∀ ds st st', ev ds st = some st' → EvGs tg T (sls K st) ds (sls K st') ∧ agree T st st' ∧ ds.length = n
section
variable {K : PySem.W.Frag}
def asL : Vl → Option (List PyData)
  | .d (.list ds) => some ds
  | _ => none
def asS : Vl → Option (List PyData)
  | .d (.list ds) => some ds
  | .s xs => some (xs.map .int)
  | _ => none
def okV {α : Type} : Rs α → Option α
  | .ok a => some a
  | _ => none
theorem okV_some {α : Type} {r : Rs α} {a : α} (h : okV r = some a) : r = .ok a := by
  cases r with
  | ok b => cases h; rfl
  | ex _ _ => cases h
  | no => cases h
theorem asL_ev {md : Md} {te : TE} {ρ : List Sl} {a : Vl} {ds : List PyData} (h : asL a = some ds) (e : Ev te ρ (pu (vr K a))) : Ev te ρ (bL ds) := by
  cases a with
  | s _ => cases h
  | i _ _ => cases h
  | d x =>
    cases x with
    | list es => cases h; exact Ev.bl e
    | _ => cases h
theorem asS_ev {te : TE} {ρ : List Sl} {a : Vl} {ds : List PyData} (h : asS a = some ds) (e : Ev te ρ (pu (vr K a))) : EvS K te ρ ds := by
  cases a with
  | s _ => cases h; exact ev_sS e
  | i _ _ => cases h
  | d x =>
    cases x with
    | list es => cases h; exact Ev.s e
    | _ => cases h
/-- a text whose value is data in any case -/
def XE.of (te : Md → TE) (ev : List Sv → Rs Vl) (ok : ∀ md st, Cm md (te md) (sls K st) (fun a => Ev (te md) (sls K st) (pu (vr K a))) (ev st)) : XE K where
  te := te
  ev := ev
  el := fun st => (okV (ev st)).bind asL
  es := fun st => (okV (ev st)).bind asS
  ok := ok
  okl := fun md st ds h => by
    obtain ⟨a, h1, h2⟩ := Option.bind_eq_some_iff.mp h
    have := ok md st
    rw [okV_some h1] at this
    exact asL_ev (K := K) (md := md) h2 this
  oks := fun md st ds h => by
    obtain ⟨a, h1, h2⟩ := Option.bind_eq_some_iff.mp h
    have := ok md st
    rw [okV_some h1] at this
    exact asS_ev h2 this
theorem sls_get {st : List Sv} {i : Nat} {s : Sv} (h : st[i]? = some s) : (sls K st)[i]? = some (sl K s) := by
  unfold sls
  rw [List.getElem?_map, h]
  rfl
theorem sls_set {st : List Sv} {i : Nat} {s : Sv} : sls K (st.set i s) = (sls K st).set i (sl K s) := by
  unfold sls
  rw [List.map_set]
theorem sls_len {st : List Sv} : (sls K st).length = st.length := by
  unfold sls
  rw [List.length_map]
def XE.var (i : Nat) : XE K where
  te := fun _ => tVar i
  ev := fun st => match st[i]? with
    | some (.v a) => .ok a
    | _ => .no
  el := fun st => match st[i]? with
    | some (.v a) => asL a
    | some (.bl ds) => some ds
    | some (.ol ds) => some ds
    | _ => none
  es := fun st => match st[i]? with
    | some (.v a) => asS a
    | some (.bl ds) => some ds
    | _ => none
  ok := fun md st => by
    cases h : st[i]? with
    | none => trivial
    | some s =>
      cases s with
      | v a => exact ev_var (sls_get (K := K) h)
      | _ => trivial
  okl := fun md st ds => by
    cases h : st[i]? with
    | none => intro z; cases z
    | some s =>
      cases s with
      | v a => exact fun z => asL_ev (K := K) (md := md) z (ev_var (sls_get (K := K) h))
      | bl es => intro z; cases z; exact ev_b (sls_get (K := K) h)
      | ol es => intro z; cases z; exact ev_o (sls_get (K := K) h)
      | _ => intro z; cases z
  oks := fun md st ds => by
    cases h : st[i]? with
    | none => intro z; cases z
    | some s =>
      cases s with
      | v a => exact fun z => asS_ev z (ev_var (sls_get (K := K) h))
      | bl es => intro z; cases z; exact es_b (sls_get (K := K) h)
      | _ => intro z; cases z
def XE.int (n : Int) : XE K := .of (fun _ => tC (.int n)) (fun _ => .ok (.d (.int n))) fun _ _ => ev_int
def XE.bool (b : Bool) : XE K := .of (fun _ => tC (.bl b)) (fun _ => .ok (.d (.bool b))) fun _ _ => ev_bl
def XE.non : XE K := .of (fun _ => tC .non) (fun _ => .ok (.d .none)) fun _ _ => ev_non
def XE.str (s : Str) : XE K := .of (fun _ => tC (.str s)) (fun _ => .ok (.d (.str s))) fun _ _ => ev_str
/-- an argument, as it is read: k where a list may be lent -/
def XE.av (k : Bool) (e : XE K) (st : List Sv) : Rs Av :=
  match k with
  | true => match e.el st with
    | some ds => .ok (.l ds)
    | none => match e.ev st with
      | .ex C n => .ex C n
      | _ => .no
  | false => (e.ev st).bind fun a => .ok (.v a)
theorem XE.av_ok (k : Bool) (e : XE K) (md : Md) (st : List Sv) : Cm md (e.te md) (sls K st) (fun x => Ev (e.te md) (sls K st) (bw K x)) (e.av k st) := by
  unfold XE.av
  have h := e.ok md st
  cases k with
  | false =>
    cases he : e.ev st with
    | ok a => rw [he] at h; exact h
    | ex C n => rw [he] at h; exact h
    | no => trivial
  | true =>
    cases hl : e.el st with
    | some ds => exact e.okl md st ds hl
    | none =>
      cases he : e.ev st with
      | ok a => trivial
      | ex C n => rw [he] at h; exact h
      | no => trivial
theorem Cm.bind {α α' β β' : Type} {md : Md} {t : L2.St → Hp → β → Prop} {t' : L2.St → Hp → β' → Prop} {ρ : List Sl} {P : α → Prop} {P' : α' → Prop} {r : Rs α} {f : α → Rs α'} (h : Cm md t ρ P r)
    (hx : ∀ C n W, EvXg W t ρ C n → EvXg W t' ρ C n) (hk : ∀ a, P a → Cm md t' ρ P' (f a)) : Cm md t' ρ P' (r.bind f) := by
  cases r with
  | ok a => exact hk a h
  | ex C n => exact fun l W w => hx C n W (h l W w)
  | no => trivial
theorem Cm.imp {α β : Type} {md : Md} {t : L2.St → Hp → β → Prop} {ρ : List Sl} {P P' : α → Prop} {r : Rs α} (h : Cm md t ρ P r) (k : ∀ a, P a → P' a) : Cm md t ρ P' r := by
  cases r with
  | ok a => exact k a h
  | ex C n => exact h
  | no => trivial
/-! operators -/
structure O2 (K : PySem.W.Frag) where
  r : R2
  ka : Bool
  kb : Bool
  f : Av → Av → Option Vl
  ok : ∀ x y z, f x y = some z → Op2 r (bw K x) (bw K y) (vr K z)
def XE.op (o : O2 K) (a b : XE K) : XE K := .of (fun md => tOp o.r (a.te md) (b.te md))
  (fun st => (a.av o.ka st).bind fun x => (b.av o.kb st).bind fun y => Rs.of (o.f x y))
  fun md st => (a.av_ok o.ka md st).bind (fun C n W h => fun Q s q => h _ s q) fun x hx =>
    (b.av_ok o.kb md st).bind (fun C n W h => fun {G σ L0 H} Q s q => hx.run _ s fun G1 H1 v e1 s1 _ => h _ s1 fun G2 H2 d e2 s2 hd => q G2 H2 d (e1.trans e2) s2 hd) fun y hy => by
      cases hf : o.f x y with
      | none => trivial
      | some z => exact ev_op hx hy (o.ok x y z hf)
structure O2N (K : PySem.W.Frag) where
  r : R2
  ka : Bool
  kb : Bool
  f : Av → Av → Option (List PyData)
  ok : ∀ x y z, f x y = some z → Op2N r (bw K x) (bw K y) z
def XN.op (o : O2N K) (a b : XE K) : XN K where
  te := fun md => tOp o.r (a.te md) (b.te md)
  ev := fun st => (a.av o.ka st).bind fun x => (b.av o.kb st).bind fun y => Rs.of (o.f x y)
  ok := fun md st => (a.av_ok o.ka md st).bind (fun C n W h => fun Q s q => h _ s q) fun x hx =>
    (b.av_ok o.kb md st).bind (fun C n W h => fun {G σ L0 H} Q s q => hx.run _ s fun G1 H1 v e1 s1 _ => h _ s1 fun G2 H2 d e2 s2 hd => q G2 H2 d (e1.trans e2) s2 hd) fun y hy => by
      cases hf : o.f x y with
      | none => trivial
      | some z => exact ev_opN hx hy (o.ok x y z hf)
/-- a new list as a value -/
def XN.e (a : XN K) : XE K := .of a.te (fun st => (a.ev st).bind fun ds => .ok (.d (.list ds))) fun md st => (a.ok md st).bind (fun _ _ _ h => h) fun ds h => EvN.ev h
def XE.neg (a : XE K) : XE K := .of (fun md => tUn (rU fun i => .int (-i)) (a.te md))
  (fun st => (a.ev st).bind fun x => match x with
    | .d (.int i) => .ok (.d (.int (-i)))
    | _ => .no)
  fun md st => (a.ok md st).bind (fun C n W h => fun Q s q => h _ s q) fun x hx => by
    cases x with
    | s _ => trivial
    | i _ _ => trivial
    | d x =>
      cases x with
      | int i => exact ev_neg hx
      | _ => trivial
def bOf : Vl → Option Bool
  | .d (.bool b) => some b
  | _ => none
theorem bOf_some {x : Vl} {b : Bool} (h : bOf x = some b) : x = .d (.bool b) := by
  cases x with
  | s _ => cases h
  | i _ _ => cases h
  | d x =>
    cases x with
    | bool c => cases h; rfl
    | _ => cases h
/-- the truth of a text that is a bool -/
def XE.bv (e : XE K) (st : List Sv) : Rs Bool := (e.ev st).bind fun x => Rs.of (bOf x)
theorem XE.bv_ok (e : XE K) (md : Md) (st : List Sv) : Cm md (e.te md) (sls K st) (fun b => Ev (e.te md) (sls K st) (pu (dB b))) (e.bv st) :=
  (e.ok md st).bind (fun _ _ _ h => h) fun x hx => by
    cases h : bOf x with
    | none => trivial
    | some b => rw [bOf_some h] at hx; exact hx
def XE.andV (a b : XE K) : XE K := .of (fun md => tAndV (a.te md) (b.te md))
  (fun st => (a.bv st).bind fun x => match x with
    | true => (b.bv st).bind fun y => .ok (.d (.bool y))
    | false => .ok (.d (.bool false)))
  fun md st => (a.bv_ok md st).bind (fun C n W h => fun Q s q => h _ s q) fun x hx => by
    cases x with
    | false => exact ev_andV (b := false) hx (fun z => nomatch z)
    | true =>
      refine (b.bv_ok md st).bind (fun C n W h => fun {G σ L0 H} Q s q => hx.atp s fun G1 H1 v e1 s1 r => ?_) fun y hy => ev_andV hx fun _ => hy
      cases r
      exact ⟨true, rfl, by rw [if_pos rfl]; exact h _ s1 fun G2 H2 d e2 s2 hd => q G2 H2 d (e1.trans e2) s2 hd⟩
def XE.orV (a b : XE K) : XE K := .of (fun md => tOrV (a.te md) (b.te md))
  (fun st => (a.bv st).bind fun x => match x with
    | false => (b.bv st).bind fun y => .ok (.d (.bool y))
    | true => .ok (.d (.bool true)))
  fun md st => (a.bv_ok md st).bind (fun C n W h => fun Q s q => h _ s q) fun x hx => by
    cases x with
    | true => exact ev_orV (b := true) hx (fun z => nomatch z)
    | false =>
      refine (b.bv_ok md st).bind (fun C n W h => fun {G σ L0 H} Q s q => hx.atp s fun G1 H1 v e1 s1 r => ?_) fun y hy => ev_orV hx fun _ => hy
      cases r
      exact ⟨false, rfl, by rw [if_neg (by decide)]; exact h _ s1 fun G2 H2 d e2 s2 hd => q G2 H2 d (e1.trans e2) s2 hd⟩
def XE.notV (a : XE K) : XE K := .of (fun md => tNotV (a.te md)) (fun st => (a.bv st).bind fun x => .ok (.d (.bool (!x))))
  fun md st => (a.bv_ok md st).bind (fun C n W h => fun Q s q => h _ s q) fun x hx => ev_notV hx
end
end R

set_option Elab.async false
set_option linter.all false
set_option maxRecDepth 100000
set_option maxHeartbeats 2000000
namespace R
open PySem PySem.Spec PyProof.Rows L2 Z
section
variable {K : PySem.W.Frag}
theorem tt_x {te : TE} {tt : TT} {ρ : List Sl} {C : Addr} {n : Int} {W : WX} (k : ∀ σ H Q, (te σ H fun _ _ => False) → tt σ H Q) (h : EvXg W te ρ C n) : EvXg W tt ρ C n := fun Q s q => k _ _ _ (h _ s q)
def XT.test (e : XE K) : XT K where
  tt := fun md => tTest (e.te md)
  ev := fun st => e.bv st
  ok := fun md st => by
    have h := e.bv_ok md st
    cases he : e.bv st with
    | ok b => rw [he] at h; exact et_test h
    | ex C n => rw [he] at h; exact fun l W w => fun Q s q => h l W w _ s q
    | no => trivial
def XT.B (e : XE K) : XT K where
  tt := fun md => tB (e.te md)
  ev := fun st => e.bv st
  ok := fun md st => by
    have h := e.bv_ok md st
    cases he : e.bv st with
    | ok b => rw [he] at h; exact et_B h
    | ex C n => rw [he] at h; exact fun l W w => fun Q s q => h l W w _ s q
    | no => trivial
def XT.and (a b : XT K) : XT K where
  tt := fun md => tAnd (a.tt md) (b.tt md)
  ev := fun st => (a.ev st).bind fun x => match x with
    | true => b.ev st
    | false => .ok false
  ok := fun md st => (a.ok md st).bind (fun C n W h => fun Q s q => h _ s q) fun x hx => by
    cases x with
    | false => exact et_and (b := false) hx (fun z => nomatch z)
    | true =>
      have hb := b.ok md st
      show Cm md _ _ _ (b.ev st)
      cases he : b.ev st with
      | ok y => rw [he] at hb; exact et_and hx fun _ => hb
      | ex C n =>
        rw [he] at hb
        exact fun l W w => fun {G σ L0 H} Q s q => hx.run _ s fun G1 H1 e1 s1 => by
          rw [if_pos rfl]
          exact hb l W w _ s1 fun G2 H2 d e2 s2 hd => q G2 H2 d (e1.trans e2) s2 hd
      | no => trivial
def XT.or (a b : XT K) : XT K where
  tt := fun md => tOr (a.tt md) (b.tt md)
  ev := fun st => (a.ev st).bind fun x => match x with
    | false => b.ev st
    | true => .ok true
  ok := fun md st => (a.ok md st).bind (fun C n W h => fun Q s q => h _ s q) fun x hx => by
    cases x with
    | true => exact et_or (b := true) hx (fun z => nomatch z)
    | false =>
      have hb := b.ok md st
      show Cm md _ _ _ (b.ev st)
      cases he : b.ev st with
      | ok y => rw [he] at hb; exact et_or hx fun _ => hb
      | ex C n =>
        rw [he] at hb
        exact fun l W w => fun {G σ L0 H} Q s q => hx.run _ s fun G1 H1 e1 s1 => by
          rw [if_neg (by decide)]
          exact hb l W w _ s1 fun G2 H2 d e2 s2 hd => q G2 H2 d (e1.trans e2) s2 hd
      | no => trivial
def XT.not (a : XT K) : XT K where
  tt := fun md => tNot (a.tt md)
  ev := fun st => (a.ev st).bind fun x => .ok (!x)
  ok := fun md st => (a.ok md st).bind (fun C n W h => fun Q s q => h _ s q) fun x hx => et_not hx
def XT.truthL (e : XE K) : XT K where
  tt := fun md => tTruth K (e.te md)
  ev := fun st => Rs.of ((e.el st).map fun ds => !ds.isEmpty)
  ok := fun md st => by
    cases h : e.el st with
    | none => trivial
    | some ds => exact et_truthL (e.okl md st ds h)
def XT.yes : XT K where
  tt := fun _ => tYes
  ev := fun _ => .ok true
  ok := fun md st => ⟨fun Q s q => q _ _ (Same.refl _) s⟩
def XE.ife (t : XT K) (a b : XE K) : XE K := .of (fun md => tIf (t.tt md) (a.te md) (b.te md))
  (fun st => (t.ev st).bind fun x => match x with
    | true => a.ev st
    | false => b.ev st)
  fun md st => (t.ok md st).bind (fun C n W h => fun Q s q => h _ s q) fun x hx => by
    cases x with
    | true =>
      have ha := a.ok md st
      show Cm md _ _ _ (a.ev st)
      cases he : a.ev st with
      | ok y => rw [he] at ha; exact ev_if hx (fun _ => ha) (fun z => nomatch z)
      | ex C n =>
        rw [he] at ha
        exact fun l W w => fun {G σ L0 H} Q s q => hx.run _ s fun G1 H1 e1 s1 => by
          rw [if_pos rfl]
          exact ha l W w _ s1 fun G2 H2 d e2 s2 hd => q G2 H2 d (e1.trans e2) s2 hd
      | no => trivial
    | false =>
      have hb := b.ok md st
      show Cm md _ _ _ (b.ev st)
      cases he : b.ev st with
      | ok y => rw [he] at hb; exact ev_if hx (fun z => nomatch z) (fun _ => hb)
      | ex C n =>
        rw [he] at hb
        exact fun l W w => fun {G σ L0 H} Q s q => hx.run _ s fun G1 H1 e1 s1 => by
          rw [if_neg (by decide)]
          exact hb l W w _ s1 fun G2 H2 d e2 s2 hd => q G2 H2 d (e1.trans e2) s2 hd
      | no => trivial
def XE.chain (o o' : O2 K) (a b c : XE K) : XE K := .of (fun md => tChain o.r o'.r (a.te md) (b.te md) (c.te md))
  (fun st => (a.av o.ka st).bind fun x => (b.av o.kb st).bind fun y => match (o.f x y).bind bOf with
    | some false => .ok (.d (.bool false))
    | some true => match okV (c.av o'.kb st) with
      | some w => Rs.of (((o'.f y w).bind bOf).map fun k => .d (.bool k))
      | none => .no
    | none => .no)
  fun md st => (a.av_ok o.ka md st).bind (fun C n W h => fun Q s q => h _ s q) fun x hx =>
    (b.av_ok o.kb md st).bind (fun C n W h => fun {G σ L0 H} Q s q => hx.run _ s fun G1 H1 v e1 s1 _ => h _ s1 fun G2 H2 d e2 s2 hd => q G2 H2 d (e1.trans e2) s2 hd) fun y hy => by
      have ho : ∀ k, (o.f x y).bind bOf = some k → Op2 o.r (bw K x) (bw K y) (dB k) := fun k h => by
        obtain ⟨z, h1, h2⟩ := Option.bind_eq_some_iff.mp h
        have := o.ok x y z h1
        rw [bOf_some h2] at this
        exact this
      cases hf : (o.f x y).bind bOf with
      | none => simp only [hf]; trivial
      | some k =>
        cases k with
        | false => simp only [hf]; exact ev_chain (a := false) (b := false) (Bc := pu (dB true)) (r' := o'.r) hx hy (fun z => nomatch z) (ho _ hf) (fun z => nomatch z)
        | true =>
          simp only [hf]
          cases hc : okV (c.av o'.kb st) with
          | none => simp only; trivial
          | some w =>
            have hcv := c.av_ok o'.kb md st
            rw [okV_some hc] at hcv
            simp only
            cases hg : (o'.f y w).bind bOf with
            | none => trivial
            | some k2 =>
              obtain ⟨z, h1, h2⟩ := Option.bind_eq_some_iff.mp hg
              have h3 := o'.ok y w z h1
              rw [bOf_some h2] at h3
              exact ev_chain hx hy (fun _ => hcv) (ho _ hf) (fun _ => h3)
end
end R

set_option Elab.async false
set_option linter.all false
set_option maxRecDepth 100000
set_option maxHeartbeats 2000000
namespace R
open PySem PySem.Spec PyProof.Rows L2 Z
section
variable {K : PySem.W.Frag}
def XA.nil : XA K where
  ta := fun _ => tNil
  ev := fun _ => .ok []
  ok := fun md st => ea_nil
def XA.cons (k : Bool) (e : XE K) (r : XA K) : XA K where
  ta := fun md => tCons (e.te md) (r.ta md)
  ev := fun st => (e.av k st).bind fun x => (r.ev st).bind fun xs => .ok (x :: xs)
  ok := fun md st => (e.av_ok k md st).bind (fun C n W h => fun Q s q => h _ s q) fun x hx =>
    (r.ok md st).bind (fun C n W h => fun {G σ L0 H} Q s q => hx.run _ s fun G1 H1 v e1 s1 _ => h _ s1 fun G2 H2 d e2 s2 hd => q G2 H2 d (e1.trans e2) s2 hd) fun xs hxs => ea_cons hx hxs
/-- arguments that are all data -/
def avD : List Av → Option (List PyData)
  | [] => some []
  | .v (.d x) :: r => (avD r).map (x :: ·)
  | _ => none
theorem avD_bw : ∀ {as : List Av} {ds : List PyData}, avD as = some ds → as.map (bw K) = ds.map fun d => pu (dat d)
  | [], ds, h => by cases h; rfl
  | .v (.d x) :: r, ds, h => by
    obtain ⟨ds', h1, h2⟩ := Option.map_eq_some_iff.mp (show (avD r).map (x :: ·) = some ds from h)
    subst h2
    rw [List.map_cons, List.map_cons, avD_bw h1]
    rfl
  | .v (.s _) :: r, ds, h => by cases h
  | .v (.i _ _) :: r, ds, h => by cases h
  | .l _ :: r, ds, h => by cases h
def XA.dev (as : XA K) (st : List Sv) : Rs (List PyData) := (as.ev st).bind fun xs => match avD xs with
  | some ds => if ds.length ≤ 1000 then .ok ds else .no
  | none => .no
theorem XA.dev_ok (as : XA K) (md : Md) (st : List Sv) : Cm md (as.ta md) (sls K st) (fun ds => EvA (as.ta md) (sls K st) (ds.map fun d => pu (dat d)) ∧ ds.length ≤ 1000) (as.dev st) :=
  (as.ok md st).bind (fun _ _ _ h => h) fun xs hx => by
    cases h : avD xs with
    | none => simp only; trivial
    | some ds =>
      rw [avD_bw h] at hx
      simp only
      split
      · exact ⟨hx, by assumption⟩
      · trivial
def XE.tup (as : XA K) : XE K := .of (fun md => tTup (as.ta md)) (fun st => (as.dev st).bind fun ds => .ok (.d (.tuple ds)))
  fun md st => (as.dev_ok md st).bind (fun C n W h => fun Q s q => h _ s q) fun ds h => ev_tup h.1 h.2
def XN.lst (as : XA K) : XN K where
  te := fun md => tLst (as.ta md)
  ev := fun st => as.dev st
  ok := fun md st => by
    have h := as.dev_ok md st
    cases he : as.dev st with
    | ok ds => rw [he] at h; exact en_lst h.1 h.2
    | ex C n => rw [he] at h; exact fun l W w => fun Q s q => h l W w _ s q
    | no => trivial
structure Bi (K : PySem.W.Frag) where
  r : List V → Hp → VK → Prop
  f : List Av → Option Vl
  ok : ∀ as z, f as = some z → Cl r (as.map (bw K)) (vr K z)
def XE.bi (b : Bi K) (as : XA K) : XE K := .of (fun md => tCB b.r (as.ta md)) (fun st => (as.ev st).bind fun xs => Rs.of (b.f xs))
  fun md st => (as.ok md st).bind (fun C n W h => fun Q s q => h _ s q) fun xs h => by
    cases hf : b.f xs with
    | none => trivial
    | some z => exact ev_cb h (b.ok xs z hf)
structure BiN (K : PySem.W.Frag) where
  r : List V → Hp → VK → Prop
  f : List Av → Option (List PyData)
  ok : ∀ as z, f as = some z → ClN r (as.map (bw K)) z
def XN.bi (b : BiN K) (as : XA K) : XN K where
  te := fun md => tCB b.r (as.ta md)
  ev := fun st => (as.ev st).bind fun xs => Rs.of (b.f xs)
  ok := fun md st => (as.ok md st).bind (fun C n W h => fun Q s q => h _ s q) fun xs h => by
    cases hf : b.f xs with
    | none => trivial
    | some z => exact en_cb h (b.ok xs z hf)
/-! functions of the program -/
structure Fn where
  m : Nat
  own : Bool
  f : List Av → Rs Vl
def resOf (K : PySem.W.Frag) (own : Bool) : Rs Vl → Res
  | .ok a => match own with
    | true => match asL a with
      | some ds => .own (oL ds)
      | none => .ok (vr K a)
    | false => .ok (vr K a)
  | .ex C n => .err C n
  | .no => .ok (dat .none)
def Fn.sp (K : PySem.W.Frag) (F : Fn) : Sp := SpA (α := {xs : List Av // xs.length = F.m}) (fun x => F.f x.1 ≠ .no) (fun x => x.1.map (bw K)) (fun x => resOf K F.own (F.f x.1))
def callT (md : Md) (sp : Sp) (t : TA) : TE := match md with
  | .out E => tCall sp [] E t
  | .tr W => tCallS sp (WE W) t
  | .qu => tCall sp [] (fun _ _ _ => False) t
theorem call_any {sp : Sp} {t : TA} {ρ : List Sl} {md : Md} {R : Rp} (h : ∀ E, Ev (tCall sp [] E t) ρ (pu R)) (h2 : ∀ E, Ev (tCallS sp E t) ρ (pu R)) : Ev (callT md sp t) ρ (pu R) := by
  cases md with
  | out E => exact h E
  | tr W => exact h2 _
  | qu => exact h _
theorem en_callS {α : Type} {pre : α → Prop} {A : α → List Bw} {F : α → Res} {tr : TA} {ρ : List Sl} {ds : List PyData} {E : L2.St → XK} (x : α) (ha : EvA tr ρ (A x)) (hp : pre x) (hR : F x = .own (oL ds)) : EvN (tCallS (SpA pre A F) E tr) ρ ds := ⟨fun {G σ L0 H} Q s q => ha.at s fun G1 H1 vs L e1 sl la r => by
  refine ⟨x, G1, L ++ L0, hp, la, r, ?_⟩
  rw [hR]
  intro G2 H2 a2 cs e2 l2 ro
  obtain ⟨ws, hcs, d⟩ := ro
  subst hcs
  obtain ⟨H3, hn3, rfl, l3⟩ := Lay.uncell l2
  exact q G2 H3 _ ws (e1.trans e2) ⟨L, sl.up e2, l3⟩ hn3 d⟩
theorem call_args (F : Fn) (as : XA K) (md : Md) (ρ : List Sl) (xs : List Av) (hm : xs.length = F.m) (h : EvA (as.ta md) ρ (xs.map (bw K))) : Cm md (callT md (F.sp K) (as.ta md)) ρ (fun a => match F.own with
    | true => ∃ ds, a = .d (.list ds) ∧ EvN (callT md (F.sp K) (as.ta md)) ρ ds
    | false => Ev (callT md (F.sp K) (as.ta md)) ρ (pu (vr K a))) (match F.f xs, F.own with
    | .ok a, true => (match asL a with
      | some ds => .ok a
      | none => .no)
    | r, _ => r) := by
  cases hf : F.f xs with
  | no => simp only; trivial
  | ex C n =>
    simp only
    intro l W w
    have hR : resOf K F.own (F.f xs) = .err C n := by rw [hf]; rfl
    cases md with
    | qu => cases l
    | out E =>
      subst w
      exact fun {G σ L0 H} Q s q => (ex_call (α := {xs : List Av // xs.length = F.m}) (A := fun x => x.1.map (bw K)) (F := fun x => resOf K F.own (F.f x.1)) (pre := fun x => F.f x.1 ≠ .no) ⟨xs, hm⟩ h (by rw [hf]; exact fun z => by cases z) hR).run Q s q
    | tr W' =>
      subst w
      exact fun {G σ L0 H} Q s q => (ex_callS (α := {xs : List Av // xs.length = F.m}) (A := fun x => x.1.map (bw K)) (F := fun x => resOf K F.own (F.f x.1)) (pre := fun x => F.f x.1 ≠ .no) ⟨xs, hm⟩ h (by rw [hf]; exact fun z => by cases z) hR).run Q s q
  | ok a =>
    cases ho : F.own with
    | false =>
      simp only
      have hR : resOf K F.own (F.f xs) = .ok (vr K a) := by rw [hf, ho]; rfl
      exact call_any (fun E => ev_call (α := {xs : List Av // xs.length = F.m}) (A := fun x => x.1.map (bw K)) (F := fun x => resOf K F.own (F.f x.1)) (pre := fun x => F.f x.1 ≠ .no) ⟨xs, hm⟩ h (by rw [hf]; exact fun z => by cases z) hR)
        (fun E => ev_callS (α := {xs : List Av // xs.length = F.m}) (A := fun x => x.1.map (bw K)) (F := fun x => resOf K F.own (F.f x.1)) (pre := fun x => F.f x.1 ≠ .no) ⟨xs, hm⟩ h (by rw [hf]; exact fun z => by cases z) hR)
    | true =>
      simp only
      cases hl : asL a with
      | none => simp only; trivial
      | some ds =>
        simp only
        have hR : resOf K F.own (F.f xs) = .own (oL ds) := by rw [hf, ho]; unfold resOf; simp only [hl]
        refine ⟨ds, ?_, ?_⟩
        · cases a with
          | s _ => cases hl
          | i _ _ => cases hl
          | d x => cases x with
            | list es => cases hl; rfl
            | _ => cases hl
        · cases md with
          | out E => exact en_call (α := {xs : List Av // xs.length = F.m}) (A := fun x => x.1.map (bw K)) (F := fun x => resOf K F.own (F.f x.1)) (pre := fun x => F.f x.1 ≠ .no) ⟨xs, hm⟩ h (by rw [hf]; exact fun z => by cases z) hR
          | tr W => exact en_callS (α := {xs : List Av // xs.length = F.m}) (A := fun x => x.1.map (bw K)) (F := fun x => resOf K F.own (F.f x.1)) (pre := fun x => F.f x.1 ≠ .no) ⟨xs, hm⟩ h (by rw [hf]; exact fun z => by cases z) hR
          | qu => exact en_call (α := {xs : List Av // xs.length = F.m}) (A := fun x => x.1.map (bw K)) (F := fun x => resOf K F.own (F.f x.1)) (pre := fun x => F.f x.1 ≠ .no) ⟨xs, hm⟩ h (by rw [hf]; exact fun z => by cases z) hR
def XE.call (F : Fn) (ho : F.own = false) (as : XA K) : XE K := .of (fun md => callT md (F.sp K) (as.ta md)) (fun st => (as.ev st).bind fun xs => if xs.length = F.m then F.f xs else .no)
  fun md st => (as.ok md st).bind (fun C n W h => by
    cases md with
    | out E => exact fun Q s q => h _ s q
    | tr W => exact fun Q s q => h _ s q
    | qu => exact fun Q s q => h _ s q) fun xs h => by
    by_cases hm : xs.length = F.m
    · rw [if_pos hm]
      have := call_args F as md (sls K st) xs hm h
      rw [ho] at this
      cases hf : F.f xs with
      | no => trivial
      | ex C n => rw [hf] at this; exact this
      | ok a => rw [hf] at this; exact this
    · rw [if_neg hm]; trivial
def lOf : Vl → Rs (List PyData)
  | .d (.list ds) => .ok ds
  | _ => .no
def XN.call (F : Fn) (ho : F.own = true) (as : XA K) : XN K where
  te := fun md => callT md (F.sp K) (as.ta md)
  ev := fun st => (as.ev st).bind fun xs => if xs.length = F.m then (F.f xs).bind lOf else .no
  ok := fun md st => (as.ok md st).bind (fun C n W h => by
    cases md with
    | out E => exact fun Q s q => h _ s q
    | tr W => exact fun Q s q => h _ s q
    | qu => exact fun Q s q => h _ s q) fun xs h => by
    by_cases hm : xs.length = F.m
    · rw [if_pos hm]
      have := call_args F as md (sls K st) xs hm h
      rw [ho] at this
      cases hf : F.f xs with
      | no => trivial
      | ex C n => rw [hf] at this; exact this
      | ok a =>
        rw [hf] at this
        show Cm _ _ _ _ (lOf a)
        cases a with
        | s _ => trivial
        | i _ _ => trivial
        | d x =>
          cases x with
          | list ds =>
            obtain ⟨ds', e, h'⟩ := this
            cases e
            exact h'
          | _ => trivial
    · rw [if_neg hm]; trivial
end
end R

set_option Elab.async false
set_option linter.all false
set_option maxRecDepth 100000
set_option maxHeartbeats 2000000
namespace R
open PySem PySem.Spec PyProof.Rows L2 Z
section
variable {K : PySem.W.Frag}
/-! slices -/
def XO.none : XO K where
  to := fun _ => tNoPart
  ev := fun _ => .ok Option.none
  ok := fun _ _ => eo_none
def iOf : Vl → Option Int
  | .d (.int n) => some n
  | _ => none
theorem iOf_some {x : Vl} {n : Int} (h : iOf x = some n) : x = .d (.int n) := by
  cases x with
  | s _ => cases h
  | i _ _ => cases h
  | d x =>
    cases x with
    | int c => cases h; rfl
    | _ => cases h
def XE.iv (e : XE K) (st : List Sv) : Rs Int := (e.ev st).bind fun x => Rs.of (iOf x)
theorem XE.iv_ok (e : XE K) (md : Md) (st : List Sv) : Cm md (e.te md) (sls K st) (fun b => Ev (e.te md) (sls K st) (pu (dI b))) (e.iv st) :=
  (e.ok md st).bind (fun _ _ _ h => h) fun x hx => by
    cases h : iOf x with
    | none => trivial
    | some b => rw [iOf_some h] at hx; exact hx
def XO.some (e : XE K) : XO K where
  to := fun md => tPart (e.te md)
  ev := fun st => (e.iv st).bind fun n => .ok (Option.some n)
  ok := fun md st => (e.iv_ok md st).bind (fun C n W h => fun Q s q => h _ s q) fun n h => eo_some h
def XN.sl (e : XE K) (lo hi : XO K) : XN K where
  te := fun md => tSl (rSlL K) (e.te md) (lo.to md) (hi.to md)
  ev := fun st => match e.el st, okV (lo.ev st), okV (hi.ev st) with
    | .some ds, .some l, .some h => .ok (cutD ds l h)
    | _, _, _ => .no
  ok := fun md st => by
    cases h1 : e.el st with
    | none => simp only; trivial
    | some ds =>
      cases h2 : okV (lo.ev st) with
      | none => simp only; trivial
      | some l =>
        cases h3 : okV (hi.ev st) with
        | none => simp only; trivial
        | some u =>
          have o1 := lo.ok md st
          have o2 := hi.ok md st
          rw [okV_some h2] at o1
          rw [okV_some h3] at o2
          exact en_sl (e.okl md st ds h1) o1 o2
/-! walks -/
def XI.list (e : XE K) : XI K where
  ti := fun md => iList K (e.te md)
  ev := fun st => match e.es st with
    | .some ds => .ok ds
    | .none => match e.ev st with
      | .ex C n => .ex C n
      | _ => .no
  ok := fun md st => by
    cases h : e.es st with
    | some ds => exact ei_list (e.oks md st ds h)
    | none =>
      have := e.ok md st
      cases he : e.ev st with
      | ok a => simp only; trivial
      | no => simp only; trivial
      | ex C n => simp only; rw [he] at this; exact fun l W w => fun Q s q => this l W w _ s q
def avI1 : List Av → Option Int
  | [.v (.d (.int n))] => some n
  | _ => none
theorem avI1_some {as : List Av} {n : Int} (h : avI1 as = some n) : as = [.v (.d (.int n))] := by
  unfold avI1 at h
  split at h
  · cases h; rfl
  · cases h
def avI2 : List Av → Option (Int × Int)
  | [.v (.d (.int n)), .v (.d (.int m))] => some (n, m)
  | _ => none
theorem avI2_some {as : List Av} {n : Int × Int} (h : avI2 as = some n) : as = [.v (.d (.int n.1)), .v (.d (.int n.2))] := by
  unfold avI2 at h
  split at h
  · cases h; rfl
  · cases h
def XI.range1 (as : XA K) : XI K where
  ti := fun md => iRng1 (as.ta md)
  ev := fun st => (as.ev st).bind fun xs => match avI1 xs with
    | some n => if n.natAbs < 4611686018427387904 then .ok (irange 0 n.toNat) else .no
    | none => .no
  ok := fun md st => (as.ok md st).bind (fun C n W h => fun Q s q => h _ s q) fun xs h => by
    cases hx : avI1 xs with
    | none => simp only; trivial
    | some n =>
      rw [avI1_some hx] at h
      simp only
      split
      · rename_i hn
        exact ei_range1 h (by omega) (by omega)
      · trivial
def XI.range2 (as : XA K) : XI K where
  ti := fun md => iRng2 (as.ta md)
  ev := fun st => (as.ev st).bind fun xs => match avI2 xs with
    | some n => if n.1.natAbs < 4611686018427387904 ∧ n.2.natAbs < 4611686018427387904 then .ok (irange n.1 (n.2 - n.1).toNat) else .no
    | none => .no
  ok := fun md st => (as.ok md st).bind (fun C n W h => fun Q s q => h _ s q) fun xs h => by
    cases hx : avI2 xs with
    | none => simp only; trivial
    | some n =>
      rw [avI2_some hx] at h
      simp only
      split
      · rename_i hn
        exact ei_range2 h (by omega) (by omega) (by omega) (by omega)
      · trivial
def enumD (ds : List PyData) : List PyData := ds.zipIdx.map fun p => .tuple [.int ((p.2 : Nat) : Int), p.1]
def XI.enum (e : XE K) : XI K where
  ti := fun md => iEnum K (tCons (e.te md) tNil)
  ev := fun st => match e.es st with
    | .some ds => .ok (enumD ds)
    | .none => .no
  ok := fun md st => by
    cases h : e.es st with
    | some ds => exact ei_enum (e.oks md st ds h)
    | none => trivial
/-! targets -/
theorem agree_refl {st : List Sv} : agree [] st st := ⟨rfl, fun _ _ => rfl⟩
def XG.name (i : Nat) : XG K where
  tg := gName i
  T := [i]
  ev := fun d st => if i < st.length then some (st.set i (.v (.d d))) else none
  ok := fun d st st' h => by
    split at h
    · cases h
      refine ⟨?_, by rw [List.length_set], fun j hj => List.getElem?_set_ne (fun z => hj (by rw [z]; exact List.mem_cons_self ..))⟩
      rw [sls_set]
      exact eg_name
    · cases h
def XGs.nil : XGs K where
  tg := gNil
  n := 0
  T := []
  ev := fun ds st => match ds with
    | [] => some st
    | _ => none
  ok := fun ds st st' h => by
    cases ds with
    | nil => cases h; exact ⟨egs_nil, agree_refl, rfl⟩
    | cons _ _ => cases h
def XGs.cons (g : XG K) (r : XGs K) : XGs K where
  tg := gCons g.tg r.tg
  n := r.n + 1
  T := g.T ++ r.T
  ev := fun ds st => match ds with
    | d :: ds => (g.ev d st).bind fun st1 => r.ev ds st1
    | [] => none
  ok := fun ds st st' h => by
    cases ds with
    | nil => cases h
    | cons d ds =>
      obtain ⟨st1, h1, h2⟩ := Option.bind_eq_some_iff.mp h
      obtain ⟨a1, b1⟩ := g.ok d st st1 h1
      obtain ⟨a2, b2, c2⟩ := r.ok ds st1 st' h2
      refine ⟨egs_cons a1 a2, ⟨b2.1.trans b1.1, fun j hj => ?_⟩, by rw [List.length_cons, c2]⟩
      rw [b2.2 j (fun z => hj (List.mem_append_right _ z)), b1.2 j (fun z => hj (List.mem_append_left _ z))]
def XG.tup (gs : XGs K) : XG K where
  tg := gTup K gs.n gs.tg
  T := gs.T
  ev := fun d st => match d with
    | .tuple ds => gs.ev ds st
    | _ => none
  ok := fun d st st' h => by
    cases d with
    | tuple ds =>
      obtain ⟨a, b, c⟩ := gs.ok ds st st' h
      exact ⟨eg_tup a c, b⟩
    | _ => cases h
def XG.lst (gs : XGs K) : XG K where
  tg := gLst K gs.n gs.tg
  T := gs.T
  ev := fun d st => match d with
    | .list ds => gs.ev ds st
    | _ => none
  ok := fun d st st' h => by
    cases d with
    | list ds =>
      obtain ⟨a, b, c⟩ := gs.ok ds st st' h
      exact ⟨eg_lst a c, b⟩
    | _ => cases h
/-! comprehensions -/
def Sv.isX : Sv → Bool
  | .x => true
  | _ => false
def allXb (st : List Sv) (vs : List Nat) : Bool := vs.all fun v => match st[v]? with
  | some s => s.isX
  | none => false
theorem allXb_ok {st : List Sv} : ∀ {vs : List Nat}, allXb st vs = true → AllX (sls K st) vs
  | [], _ => trivial
  | v :: vs, h => by
    unfold allXb at h
    rw [List.all_cons, Bool.and_eq_true] at h
    refine ⟨?_, allXb_ok h.2⟩
    have h1 := h.1
    cases hs : st[v]? with
    | none => rw [hs] at h1; cases h1
    | some s =>
      rw [hs] at h1
      cases s with
      | x => exact sls_get (K := K) hs
      | _ => cases h1
theorem allXb_at {st : List Sv} {vs : List Nat} (h : allXb st vs = true) {v : Nat} (hv : v ∈ vs) : st[v]? = some .x := by
  have := List.all_eq_true.mp h v hv
  cases hs : st[v]? with
  | none => rw [hs] at this; cases this
  | some s =>
    rw [hs] at this
    cases s with
    | x => rfl
    | _ => cases this
theorem wk_of : ∀ {ρ1 ρ : List Sl}, ρ1.length = ρ.length → (∀ j : Nat, ρ[j]? = some Sl.x ∨ ρ1[j]? = ρ[j]?) → Wk ρ1 ρ
  | [], [], _, _ => .nil
  | [], _ :: _, h, _ => by cases h
  | _ :: _, [], h, _ => by cases h
  | a :: ρ1, b :: ρ, h, k => by
    have r : Wk ρ1 ρ := wk_of (by simpa using h) fun j => by simpa using k (j + 1)
    have h0 := k 0
    simp only [List.getElem?_cons_zero] at h0
    rcases h0 with h0 | h0
    · cases h0; exact .x r
    · cases h0; exact .k r
theorem wk_agree {T vs : List Nat} {st st1 : List Sv} (a : agree T st st1) (hx : allXb st vs = true) (ht : ∀ i ∈ T, i ∈ vs) : Wk (sls K st1) (sls K st) :=
  wk_of (by rw [sls_len, sls_len, a.1]) fun j => by
    by_cases hj : j ∈ T
    · exact .inl (sls_get (K := K) (allXb_at hx (ht j hj)))
    · right
      unfold sls
      rw [List.getElem?_map, List.getElem?_map, a.2 j hj]
section
variable (g : XG K) (c : XT K) (e : XE K) (st : List Sv)
def lcOne (d : PyData) : Option (Option PyData) := (g.ev d st).bind fun st1 => match okV (c.ev st1) with
  | some false => some none
  | some true => match okV (e.ev st1) with
    | some (.d x) => some (some x)
    | _ => none
  | none => none
def lcL : List PyData → Option (List PyData)
  | [] => some []
  | d :: ds => (lcOne g c e st d).bind fun o => (lcL ds).map fun r => match o with
    | some x => x :: r
    | none => r
def lcP (d : PyData) : Bool := match lcOne g c e st d with
  | some (some _) => true
  | _ => false
def lcF (d : PyData) : PyData := match lcOne g c e st d with
  | some (some x) => x
  | _ => .none
theorem lcL_some : ∀ {ds r : List PyData}, lcL g c e st ds = some r → r = (ds.filter (lcP g c e st)).map (lcF g c e st) ∧ ∀ d ∈ ds, lcOne g c e st d ≠ none
  | [], r, h => by cases h; exact ⟨rfl, fun _ z => nomatch z⟩
  | d :: ds, r, h => by
    obtain ⟨o, h1, h2⟩ := Option.bind_eq_some_iff.mp (show (lcOne g c e st d).bind _ = some r from h)
    obtain ⟨r', h3, h4⟩ := Option.map_eq_some_iff.mp h2
    obtain ⟨i1, i2⟩ := lcL_some h3
    refine ⟨?_, fun d' hd => ?_⟩
    · cases o with
      | none =>
        have : lcP g c e st d = false := by unfold lcP; rw [h1]
        rw [List.filter_cons, this]
        simp only at h4
        rw [← h4, i1]
        rfl
      | some x =>
        have : lcP g c e st d = true := by unfold lcP; rw [h1]
        have hf : lcF g c e st d = x := by unfold lcF; rw [h1]
        rw [List.filter_cons, this]
        simp only at h4
        rw [← h4, i1, if_pos rfl, List.map_cons, hf]
    · rcases List.mem_cons.mp hd with z | z
      · rw [z, h1]; exact fun y => nomatch y
      · exact i2 d' z
end
def XN.lc (it : XI K) (g : XG K) (c : XT K) (e : XE K) (vs : List Nat) : XN K where
  te := fun md => tLc (it.ti md) g.tg (c.tt .qu) (e.te .qu) vs
  ev := fun st => (it.ev st).bind fun ds => if ds.length ≤ 100000 ∧ allXb st vs = true ∧ (g.T.all fun i => decide (i ∈ vs)) = true then Rs.of (lcL g c e st ds) else .no
  ok := fun md st => (it.ok md st).bind (fun C n W h => fun Q s q => h _ s q) fun ds h => by
    split
    · rename_i hc
      cases hl : lcL g c e st ds with
      | none => trivial
      | some r =>
        obtain ⟨h1, h2⟩ := lcL_some g c e st hl
        show EvN _ _ r
        rw [h1]
        have hts : ∀ i ∈ g.T, i ∈ vs := fun i hi => of_decide_eq_true (List.all_eq_true.mp hc.2.2 i hi)
        refine en_lc (en := id) (by rw [List.map_id]; exact h) (allXb_ok hc.2.1) hc.1 fun d hd => ?_
        have hne := h2 d hd
        cases ho : lcOne g c e st d with
        | none => exact absurd ho hne
        | some o =>
          obtain ⟨st1, g1, g2⟩ := Option.bind_eq_some_iff.mp (show (g.ev d st).bind _ = some o from ho)
          obtain ⟨eg, ag⟩ := g.ok d st st1 g1
          refine ⟨g.T, sls K st1, eg, hts, wk_agree ag hc.2.1 hts, ?_, ?_⟩
          · have hct := c.ok .qu st1
            cases hcv : okV (c.ev st1) with
            | none => rw [hcv] at g2; cases g2
            | some b =>
              rw [okV_some hcv] at hct
              refine EvT.is hct ?_
              rw [hcv] at g2
              unfold lcP
              rw [ho]
              cases b with
              | false => cases g2; rfl
              | true =>
                simp only at g2
                split at g2
                · cases g2; rfl
                · cases g2
          · intro hp
            cases hcv : okV (c.ev st1) with
            | none => rw [hcv] at g2; cases g2
            | some b =>
              rw [hcv] at g2
              unfold lcF
              unfold lcP at hp
              rw [ho] at hp ⊢
              cases b with
              | false => cases g2; cases hp
              | true =>
                simp only at g2
                have het := e.ok .qu st1
                split at g2
                · rename_i x hx
                  cases g2
                  rw [okV_some hx] at het
                  exact het
                · cases g2
    · trivial
end
end R

set_option Elab.async false
set_option linter.all false
set_option maxRecDepth 100000
set_option maxHeartbeats 2000000
namespace R
open PySem PySem.Spec PyProof.Rows L2 Z
inductive Oc where
  | nx (st : List Sv) | rt (a : Vl) | ro (ds : List PyData) | bk (st : List Sv) | ct (st : List Sv) | xc (st : List Sv) (C : Addr) (n : Int) | no
def OcOk (K : PySem.W.Frag) (md : Md) (W : WX) (t : TS) (ρ : List Sl) : Oc → Prop
  | .nx st => Ex W t ρ (.nx (sls K st))
  | .rt a => Ex W t ρ (.rt (vr K a))
  | .ro ds => Ex W t ρ (.ro (oL ds))
  | .bk st => Ex W t ρ (.bk (sls K st))
  | .ct st => Ex W t ρ (.ct (sls K st))
  | .xc st C n => md.loud = true → Ex W t ρ (.xc (sls K st) C n)
  | .no => True
structure XS (K : PySem.W.Frag) where
  ts : Md → TS
  ev : List Sv → Oc
  ok : ∀ md W st, md.fits W → OcOk K md W (ts md) (sls K st) (ev st)
section
variable {K : PySem.W.Frag}
def Rs.oc {α : Type} (st : List Sv) (k : α → Oc) : Rs α → Oc
  | .ok a => k a
  | .ex C n => .xc st C n
  | .no => .no
theorem oc_ok {α β : Type} {md : Md} {W : WX} {t : L2.St → Hp → β → Prop} {u : TS} {st : List Sv} {P : α → Prop} {r : Rs α} {k : α → Oc} (w : md.fits W) (h : Cm md t (sls K st) P r)
    (hx : ∀ C n, EvXg W t (sls K st) C n → Ex W u (sls K st) (.xc (sls K st) C n)) (hk : ∀ a, P a → OcOk K md W u (sls K st) (k a)) : OcOk K md W u (sls K st) (r.oc st k) := by
  cases r with
  | ok a => exact hk a h
  | ex C n => exact fun l => hx C n (h l W w)
  | no => trivial
def XS.nx : XS K where
  ts := fun _ => tNext
  ev := fun st => .nx st
  ok := fun md W st w => Ex.next
def XS.brk : XS K where
  ts := fun _ => tBreak
  ev := fun st => .bk st
  ok := fun md W st w => Ex.break_
def XS.cnt : XS K where
  ts := fun _ => tCont
  ev := fun st => .ct st
  ok := fun md W st w => Ex.cont
def XS.seq (a b : XS K) : XS K where
  ts := fun md => tSeq (a.ts md) (b.ts md)
  ev := fun st => match a.ev st with
    | .nx st' => b.ev st'
    | o => o
  ok := fun md W st w => by
    have ha := a.ok md W st w
    cases he : a.ev st with
    | nx st' =>
      rw [he] at ha
      have hb := b.ok md W st' w
      show OcOk K md W _ _ (b.ev st')
      cases hf : b.ev st' with
      | no => trivial
      | xc s C n => rw [hf] at hb; exact fun l => Ex.seq ha (hb l)
      | nx s => rw [hf] at hb; exact Ex.seq ha hb
      | rt s => rw [hf] at hb; exact Ex.seq ha hb
      | ro s => rw [hf] at hb; exact Ex.seq ha hb
      | bk s => rw [hf] at hb; exact Ex.seq ha hb
      | ct s => rw [hf] at hb; exact Ex.seq ha hb
    | no => trivial
    | xc s C n => rw [he] at ha; exact fun l => Ex.seqE (ha l) rfl
    | rt s => rw [he] at ha; exact Ex.seqE ha rfl
    | ro s => rw [he] at ha; exact Ex.seqE ha rfl
    | bk s => rw [he] at ha; exact Ex.seqE ha rfl
    | ct s => rw [he] at ha; exact Ex.seqE ha rfl
def XS.set (i : Nat) (e : XE K) : XS K where
  ts := fun md => tAsg (e.te md) (gName i)
  ev := fun st => (e.ev st).oc st fun a => .nx (st.set i (.v a))
  ok := fun md W st w => oc_ok w (e.ok md st) (fun C n h => Ex.asgX ⟨h⟩) fun a h => by
    show Ex _ _ _ (.nx (sls K (st.set i (.v a))))
    rw [sls_set]
    exact Ex.set (i := i) h
def XS.setN (i : Nat) (e : XN K) : XS K where
  ts := fun md => tAsg (e.te md) (gName i)
  ev := fun st => (e.ev st).oc st fun ds => if i < st.length then .nx (st.set i (.ol ds)) else .no
  ok := fun md W st w => oc_ok w (e.ok md st) (fun C n h => Ex.asgX ⟨h⟩) fun a h => by
    split
    · show Ex _ _ _ (.nx (sls K (st.set i (.ol a))))
      rw [sls_set]
      exact Ex.setN h (by rw [sls_len]; assumption)
    · trivial
def XS.asg (g : XG K) (e : XE K) : XS K where
  ts := fun md => tAsg (e.te md) g.tg
  ev := fun st => (e.ev st).oc st fun a => match a with
    | .d d => match g.ev d st with
      | some st' => .nx st'
      | none => .no
    | _ => .no
  ok := fun md W st w => oc_ok w (e.ok md st) (fun C n h => Ex.asgX ⟨h⟩) fun a h => by
    cases a with
    | s _ => trivial
    | i _ _ => trivial
    | d d =>
      simp only
      cases hg : g.ev d st with
      | none => trivial
      | some st' => exact Ex.asg (R := dat d) h (g.ok d st st' hg).1
def XS.aug (i : Nat) (o : O2 K) (ho : o.ka = false ∧ o.kb = false) (e : XE K) : XS K where
  ts := fun md => tAug i (e.te md) o.r
  ev := fun st => match st[i]? with
    | some (.v a) => match okV (e.ev st) with
      | some b => match o.f (.v a) (.v b) with
        | some c => .nx (st.set i (.v c))
        | none => .no
      | none => .no
    | _ => .no
  ok := fun md W st w => by
    cases hi : st[i]? with
    | none => trivial
    | some s =>
      cases s with
      | v a =>
        show OcOk K md W _ _ (match okV (e.ev st) with
          | some b => _
          | none => _)
        cases he : okV (e.ev st) with
        | none => trivial
        | some b =>
          show OcOk K md W _ _ (match o.f (.v a) (.v b) with
            | some c => _
            | none => _)
          cases hf : o.f (.v a) (.v b) with
          | none => trivial
          | some c =>
            have h := e.ok md st
            rw [okV_some he] at h
            show Ex _ _ _ (.nx (sls K (st.set i (.v c))))
            rw [sls_set]
            exact Ex.aug (sls_get (K := K) hi) h (o.ok _ _ _ hf)
      | _ => trivial
def XS.seti (i : Nat) (k e : XE K) : XS K where
  ts := fun md => tAsg (e.te md) (gSub (tVar i) (k.te md) rSetL)
  ev := fun st => match st[i]? with
    | some (.ol ds) => (e.ev st).oc st fun a => match a with
      | .d d => match okV (k.iv st) with
        | some n => match ixN ds.length n with
          | some j => .nx (st.set i (.ol (ds.set j d)))
          | none => .no
        | none => .no
      | _ => .no
    | _ => .no
  ok := fun md W st w => by
    split
    · rename_i ds hi
      refine oc_ok w (e.ok md st) (fun C n h => Ex.asgX ⟨h⟩) fun a h => ?_
      split
      · rename_i d
        split
        · rename_i n hk
          split
          · rename_i j hj
            have h2 := k.iv_ok md st
            rw [okV_some hk] at h2
            show Ex _ _ _ (.nx (sls K (st.set i (.ol (ds.set j d)))))
            rw [sls_set]
            exact Ex.setitem (sls_get (K := K) hi) h h2 hj
          · trivial
        · trivial
      · trivial
    · trivial
def XS.app (i : Nat) (e : XE K) : XS K where
  ts := fun md => tDrop (tBM K "list" rAppend (tVar i) (tCons (e.te md) tNil))
  ev := fun st => match st[i]? with
    | some (.ol ds) => (e.ev st).oc st fun a => match a with
      | .d d => if ds.length < 1000000 then .nx (st.set i (.ol (ds ++ [d]))) else .no
      | _ => .no
    | _ => .no
  ok := fun md W st w => by
    cases hi : st[i]? with
    | none => trivial
    | some s =>
      cases s with
      | ol ds =>
        refine oc_ok w (e.ok md st) (fun C n h => Ex.appendX (sls_get (K := K) hi) ⟨h⟩ rfl) fun a h => ?_
        cases a with
        | s _ => trivial
        | i _ _ => trivial
        | d d =>
          simp only
          split
          · show Ex _ _ _ (.nx (sls K (st.set i (.ol (ds ++ [d])))))
            rw [sls_set]
            exact Ex.append (sls_get (K := K) hi) h (by assumption) rfl
          · trivial
      | _ => trivial
theorem Ex.ifX {t : TT} {a b : TS} {ρ : List Sl} {W : WX} {C : Addr} {n : Int} (h : EvXg W t ρ C n) : Ex W (tIfS t a b) ρ (.xc ρ C n) := ⟨fun D s q => h _ s fun G' H' d e s' hd => q G' _ H' d e s' hd⟩
def XS.ite (t : XT K) (a b : XS K) : XS K where
  ts := fun md => tIfS (t.tt md) (a.ts md) (b.ts md)
  ev := fun st => (t.ev st).oc st fun x => match x with
    | true => a.ev st
    | false => b.ev st
  ok := fun md W st w => oc_ok w (t.ok md st) (fun C n h => Ex.ifX h) fun x h => by
    cases x with
    | true =>
      have ha := a.ok md W st w
      show OcOk K md W _ _ (a.ev st)
      cases he : a.ev st with
      | no => trivial
      | xc s C n => rw [he] at ha; exact fun l => Ex.ife h (fun _ => ha l) (fun z => nomatch z)
      | nx s => rw [he] at ha; exact Ex.ife h (fun _ => ha) (fun z => nomatch z)
      | rt s => rw [he] at ha; exact Ex.ife h (fun _ => ha) (fun z => nomatch z)
      | ro s => rw [he] at ha; exact Ex.ife h (fun _ => ha) (fun z => nomatch z)
      | bk s => rw [he] at ha; exact Ex.ife h (fun _ => ha) (fun z => nomatch z)
      | ct s => rw [he] at ha; exact Ex.ife h (fun _ => ha) (fun z => nomatch z)
    | false =>
      have ha := b.ok md W st w
      show OcOk K md W _ _ (b.ev st)
      cases he : b.ev st with
      | no => trivial
      | xc s C n => rw [he] at ha; exact fun l => Ex.ife h (fun z => nomatch z) (fun _ => ha l)
      | nx s => rw [he] at ha; exact Ex.ife h (fun z => nomatch z) (fun _ => ha)
      | rt s => rw [he] at ha; exact Ex.ife h (fun z => nomatch z) (fun _ => ha)
      | ro s => rw [he] at ha; exact Ex.ife h (fun z => nomatch z) (fun _ => ha)
      | bk s => rw [he] at ha; exact Ex.ife h (fun z => nomatch z) (fun _ => ha)
      | ct s => rw [he] at ha; exact Ex.ife h (fun z => nomatch z) (fun _ => ha)
def XS.ret (e : XE K) : XS K where
  ts := fun md => tRet (e.te md)
  ev := fun st => (e.ev st).oc st .rt
  ok := fun md W st w => oc_ok w (e.ok md st) (fun C n h => Ex.retX ⟨h⟩) fun a h => Ex.ret h
def XS.retN : XS K where
  ts := fun _ => tRetN
  ev := fun _ => .rt (.d .none)
  ok := fun md W st w => Ex.retN
def XS.retO (e : XN K) : XS K where
  ts := fun md => tRet (e.te md)
  ev := fun st => (e.ev st).oc st .ro
  ok := fun md W st w => oc_ok w (e.ok md st) (fun C n h => Ex.retX ⟨h⟩) fun a h => Ex.retO h
def XS.retV (i : Nat) : XS K where
  ts := fun _ => tRet (tVar i)
  ev := fun st => match st[i]? with
    | some (.ol ds) => .ro ds
    | _ => .no
  ok := fun md W st w => by
    cases hi : st[i]? with
    | none => trivial
    | some s =>
      cases s with
      | ol ds => exact Ex.retOv (sls_get (K := K) hi)
      | _ => trivial
def XS.drop (e : XE K) : XS K where
  ts := fun md => tDrop (e.te md)
  ev := fun st => (e.ev st).oc st fun _ => .nx st
  ok := fun md W st w => oc_ok w (e.ok md st) (fun C n h => Ex.dropX ⟨h⟩) fun a h => Ex.drop h
/-- the list at slot i stays as it is from here on -/
def frz (i : Nat) (st : List Sv) : List Sv := match st[i]? with
  | some (.ol ds) => st.set i (.v (.d (.list ds)))
  | _ => st
theorem frz_ok {t : TS} {W : WX} {o : Out} {i : Nat} {st : List Sv} (h : Ex W t (sls K (frz i st)) o) : Ex W t (sls K st) o := by
  unfold frz at h
  cases hi : st[i]? with
  | none => rw [hi] at h; exact h
  | some s =>
    rw [hi] at h
    cases s with
    | ol ds =>
      simp only at h
      rw [sls_set] at h
      exact Ex.freeze i (sls_get (K := K) hi) h
    | _ => exact h
def XS.frz (i : Nat) (a : XS K) : XS K where
  ts := a.ts
  ev := fun st => a.ev (R.frz i st)
  ok := fun md W st w => by
    have ha := a.ok md W (R.frz i st) w
    show OcOk K md W _ _ (a.ev (R.frz i st))
    cases he : a.ev (R.frz i st) with
    | no => trivial
    | xc s C n => rw [he] at ha; exact fun l => frz_ok (ha l)
    | nx s => rw [he] at ha; exact frz_ok ha
    | rt s => rw [he] at ha; exact frz_ok ha
    | ro s => rw [he] at ha; exact frz_ok ha
    | bk s => rw [he] at ha; exact frz_ok ha
    | ct s => rw [he] at ha; exact frz_ok ha
/-! loops -/
def lp (g : XG K) (b : XS K) : List PyData → List Sv → Oc
  | [], st => .nx st
  | d :: ds, st => match g.ev d st with
    | none => .no
    | some st1 => match b.ev st1 with
      | .nx st2 => lp g b ds st2
      | .ct st2 => lp g b ds st2
      | .bk st2 => .nx st2
      | o => o
def lpF (K : PySem.W.Frag) (g : XG K) (b : XS K) (st : List Sv) (d : PyData) : Sum (List Sv) Out := match g.ev d st with
  | none => .inl st
  | some st1 => match b.ev st1 with
    | .nx st2 => .inl st2
    | .ct st2 => .inl st2
    | .bk st2 => .inr (.bk (sls K st2))
    | .rt a => .inr (.rt (vr K a))
    | .ro ds => .inr (.ro (oL ds))
    | .xc s C n => .inr (.xc (sls K s) C n)
    | .no => .inl st
def good (g : XG K) (b : XS K) (o : Oc) (st : List Sv) (d : PyData) : Prop := ∃ st1, g.ev d st = some st1 ∧ b.ev st1 ≠ .no ∧ ∀ s C n, b.ev st1 = .xc s C n → o = .xc s C n
def lpO (K : PySem.W.Frag) : Oc → Out
  | .nx st => .nx (sls K st)
  | .rt a => .rt (vr K a)
  | .ro ds => .ro (oL ds)
  | .bk st => .bk (sls K st)
  | .ct st => .ct (sls K st)
  | .xc st C n => .xc (sls K st) C n
  | .no => .nx []
theorem lp_run (g : XG K) (b : XS K) : ∀ (ds : List PyData) (st : List Sv), lp g b ds st ≠ .no →
    loopOut (sls K) (runF (lpF K g b) st ds) = lpO K (lp g b ds st) ∧ ∀ pre d post s, ds = pre ++ d :: post → runF (lpF K g b) st pre = .inl s → good g b (lp g b ds st) s d
  | [], st, h => ⟨rfl, fun pre d post s e => by simp at e⟩
  | d :: ds, st, h => by
    unfold lp at h ⊢
    cases hg : g.ev d st with
    | none => rw [hg] at h; exact absurd rfl h
    | some st1 =>
      rw [hg] at h
      simp only at h ⊢
      have key : ∀ st2, lpF K g b st d = .inl st2 → lp g b ds st2 ≠ .no → b.ev st1 ≠ .no → (∀ s C n, b.ev st1 ≠ .xc s C n) → loopOut (sls K) (runF (lpF K g b) st (d :: ds)) = lpO K (lp g b ds st2) ∧ ∀ pre d' post s, d :: ds = pre ++ d' :: post → runF (lpF K g b) st pre = .inl s → good g b (lp g b ds st2) s d' := by
        intro st2 e1 hn hb hx
        obtain ⟨i1, i2⟩ := lp_run g b ds st2 hn
        refine ⟨?_, fun pre d' post s e r => ?_⟩
        · have : runF (lpF K g b) st (d :: ds) = runF (lpF K g b) st2 ds := by
            conv => lhs; unfold runF
            rw [e1]
          rw [this, i1]
        · cases pre with
          | nil =>
            cases r
            cases e
            exact ⟨st1, hg, hb, fun s C n z => absurd z (hx s C n)⟩
          | cons p pre =>
            cases e
            have : runF (lpF K g b) st (d :: pre) = runF (lpF K g b) st2 pre := by
              conv => lhs; unfold runF
              rw [e1]
            rw [this] at r
            exact i2 pre d' post s rfl r
      have stop : ∀ o O, lpF K g b st d = .inr o → b.ev st1 ≠ .no → (∀ s C n, b.ev st1 = .xc s C n → O = .xc s C n) → loopOut (sls K) (runF (lpF K g b) st (d :: ds)) = unbk o ∧ ∀ pre d' post s, d :: ds = pre ++ d' :: post → runF (lpF K g b) st pre = .inl s → good g b O s d' := by
        intro o O e1 hb hx
        refine ⟨?_, fun pre d' post s e r => ?_⟩
        · conv => lhs; unfold runF
          rw [e1]
          rfl
        · cases pre with
          | nil =>
            cases r
            cases e
            exact ⟨st1, hg, hb, hx⟩
          | cons p pre =>
            cases e
            have : runF (lpF K g b) st (d :: pre) = .inr o := by
              conv => lhs; unfold runF
              rw [e1]
            rw [this] at r
            cases r
      have hf : ∀ o, b.ev st1 = o → lpF K g b st d = (match o with
          | .nx st2 => .inl st2
          | .ct st2 => .inl st2
          | .bk st2 => .inr (.bk (sls K st2))
          | .rt a => .inr (.rt (vr K a))
          | .ro ds => .inr (.ro (oL ds))
          | .xc s C n => .inr (.xc (sls K s) C n)
          | .no => .inl st) := fun o ho => by
        unfold lpF
        rw [hg]
        simp only [ho]
      cases hb : b.ev st1 with
      | no => rw [hb] at h; exact absurd rfl h
      | nx st2 => rw [hb] at h; exact key st2 (hf _ hb) h (by rw [hb]; exact fun z => nomatch z) (by rw [hb]; exact fun _ _ _ z => nomatch z)
      | ct st2 => rw [hb] at h; exact key st2 (hf _ hb) h (by rw [hb]; exact fun z => nomatch z) (by rw [hb]; exact fun _ _ _ z => nomatch z)
      | bk st2 => exact stop _ _ (hf _ hb) (by rw [hb]; exact fun z => nomatch z) (by rw [hb]; exact fun _ _ _ z => nomatch z)
      | rt a => exact stop _ _ (hf _ hb) (by rw [hb]; exact fun z => nomatch z) (by rw [hb]; exact fun _ _ _ z => nomatch z)
      | ro a => exact stop _ _ (hf _ hb) (by rw [hb]; exact fun z => nomatch z) (by rw [hb]; exact fun _ _ _ z => nomatch z)
      | xc s C n => exact stop _ _ (hf _ hb) (by rw [hb]; exact fun z => nomatch z) (by rw [hb]; exact fun _ _ _ z => z)
def XS.for_ (it : XI K) (g : XG K) (b : XS K) : XS K where
  ts := fun md => tFor (it.ti md) g.tg (b.ts md)
  ev := fun st => (it.ev st).oc st fun ds => lp g b ds st
  ok := fun md W st w => oc_ok w (it.ok md st) (fun C n h => ⟨fun D s q => h _ s fun G' H' d e s' hd => q G' _ H' d e s' hd⟩) fun ds hi => by
    by_cases hl : md.loud = true ∨ ∀ s C n, lp g b ds st ≠ .xc s C n
    · by_cases hno : lp g b ds st = .no
      · rw [hno]; trivial
      · obtain ⟨h1, h2⟩ := lp_run g b ds st hno
        have main : Ex W (tFor (it.ti md) g.tg (b.ts md)) (sls K st) (lpO K (lp g b ds st)) := by
          rw [← h1]
          refine Ex.forF (K := K) (en := id) (T := []) (sls K) (lpF K g b) (by rw [List.map_id]; exact hi) (Wk.refl _) fun pre x post s e r => ?_
          obtain ⟨st1, g1, g2, g3⟩ := h2 pre x post s e r
          obtain ⟨eg, _⟩ := g.ok x s st1 g1
          have hb := b.ok md W st1 w
          have hf : lpF K g b s x = (match b.ev st1 with
              | .nx st2 => .inl st2
              | .ct st2 => .inl st2
              | .bk st2 => .inr (.bk (sls K st2))
              | .rt a => .inr (.rt (vr K a))
              | .ro ds => .inr (.ro (oL ds))
              | .xc s C n => .inr (.xc (sls K s) C n)
              | .no => .inl s) := by
            unfold lpF
            rw [g1]
          rw [hf]
          cases he : b.ev st1 with
          | no => exact absurd he g2
          | nx st2 => rw [he] at hb; exact ⟨(fun o z => nomatch z), g.T, _, eg, Ex.go hb⟩
          | ct st2 => rw [he] at hb; exact ⟨(fun o z => nomatch z), g.T, _, eg, Ex.goc hb⟩
          | bk st2 => rw [he] at hb; exact ⟨fun o z => by cases z; rfl, g.T, _, eg, hb⟩
          | rt a => rw [he] at hb; exact ⟨fun o z => by cases z; rfl, g.T, _, eg, hb⟩
          | ro a => rw [he] at hb; exact ⟨fun o z => by cases z; rfl, g.T, _, eg, hb⟩
          | xc s2 C n =>
            rw [he] at hb
            exact ⟨fun o z => by cases z; rfl, g.T, _, eg, hb (hl.resolve_right fun z => z _ _ _ (g3 _ _ _ he))⟩
        cases he : lp g b ds st with
        | no => trivial
        | xc s C n => rw [he] at main; exact fun _ => main
        | nx s => rw [he] at main; exact main
        | rt s => rw [he] at main; exact main
        | ro s => rw [he] at main; exact main
        | bk s => rw [he] at main; exact main
        | ct s => rw [he] at main; exact main
    · cases he : lp g b ds st with
      | xc s C n => exact fun l => absurd (.inl l) hl
      | no => trivial
      | nx s => exact absurd (.inr (by rw [he]; exact fun _ _ _ z => nomatch z)) hl
      | rt s => exact absurd (.inr (by rw [he]; exact fun _ _ _ z => nomatch z)) hl
      | ro s => exact absurd (.inr (by rw [he]; exact fun _ _ _ z => nomatch z)) hl
      | bk s => exact absurd (.inr (by rw [he]; exact fun _ _ _ z => nomatch z)) hl
      | ct s => exact absurd (.inr (by rw [he]; exact fun _ _ _ z => nomatch z)) hl
end
end R

set_option Elab.async false
set_option linter.all false
set_option maxRecDepth 100000
set_option maxHeartbeats 2000000
namespace R
open PySem PySem.Spec PyProof.Rows L2 Z
section
variable {K : PySem.W.Frag}
def Md.W : Md → WX
  | .out E => WofE E
  | .tr W => W
  | .qu => fun _ _ _ _ => False
theorem Md.fits_W {md : Md} {W : WX} (l : md.loud = true) (w : md.fits W) : md.W = W := by
  cases md with
  | out E => exact w.symm
  | tr W' => exact w.symm
  | qu => cases l
def raiseT (K : PySem.W.Frag) (md : Md) (C : Addr) (ta : TA) : TS := match md with
  | .out E => fun _ σ H => tMkO C (spAt K) [] ta σ H fun cls d H' => E cls d H'
  | .tr W => fun _ σ H => tMkO C (spAt K) [] ta σ H fun cls d H' => W cls d σ H'
  | .qu => fun _ σ H => tMkO C (spAt K) [] ta σ H fun cls d H' => False
def XS.raise (C : Addr) (hC : OexC K C) (hn : PySem.W.findIn K (.ref C) "at" = some none) (as : XA K) : XS K where
  ts := fun md => raiseT K md C (as.ta md)
  ev := fun st => (as.ev st).oc st fun xs => match avI1 xs with
    | some n => .xc st C n
    | none => .no
  ok := fun md W st w => by
    have h := as.ok md st
    cases he : as.ev st with
    | no => trivial
    | ex C' n =>
      rw [he] at h
      intro l
      have h : EvXg W (as.ta md) (sls K st) C' n := h l W w
      cases md with
      | qu => cases l
      | out E => exact ⟨fun D s q => h _ s fun G' H' d e s' hd => q G' _ H' d e s' hd⟩
      | tr W' => exact ⟨fun D s q => h _ s fun G' H' d e s' hd => q G' _ H' d e s' hd⟩
    | ok xs =>
      rw [he] at h
      show OcOk K md W _ _ (match avI1 xs with
        | some n => _
        | none => _)
      cases hx : avI1 xs with
      | none => trivial
      | some n =>
        rw [avI1_some hx] at h
        intro l
        cases md with
        | qu => cases l
        | out E => subst w; exact Ex.raise_ h hC hn
        | tr W' => subst w; exact Ex.raise_ h hC hn
structure XH (K : PySem.W.Frag) (i : Nat) where
  ts : Addr → Value → Option Addr → TS
  ev : Addr → Int → List Sv → Oc
  ok : ∀ W a d C n st, OcOk K .qu W (ts a (.ref C) (some d)) ((sls K st).set i (.p (errR a d n))) (ev C n st)
def mute : Oc → Oc
  | .xc _ _ _ => .no
  | o => o
def XH.of (i : Nat) (suite : Addr → Value → Option Addr → XS K) (ev : Addr → Int → List Sv → Oc) (h : ∀ (a d C : Addr) (n : Int) (st : List Sv), mute ((suite a (.ref C) (some d)).ev (st.set i (.er a d n))) = ev C n st) : XH K i where
  ts := fun a cls d => (suite a cls d).ts .qu
  ev := ev
  ok := fun W a d C n st => by
    have := (suite a (.ref C) (some d)).ok .qu W (st.set i (.er a d n)) trivial
    rw [sls_set] at this
    rw [← h a d C n st]
    cases he : (suite a (.ref C) (some d)).ev (st.set i (.er a d n)) with
    | xc _ _ _ => trivial
    | no => trivial
    | nx s => rw [he] at this; exact this
    | rt s => rw [he] at this; exact this
    | ro s => rw [he] at this; exact this
    | bk s => rw [he] at this; exact this
    | ct s => rw [he] at this; exact this
def clr (i : Nat) : Oc → Oc
  | .nx st => .nx (st.set i .x)
  | .bk st => .bk (st.set i .x)
  | .ct st => .ct (st.set i .x)
  | .xc _ _ _ => .no
  | o => o
def XS.try_ (i : Nat) (cW : Addr) (b : XS K) (s : XH K i) : XS K where
  ts := fun md D σ H => b.ts (.tr (wAs K (.ref cW) i s.ts md.W D)) D σ H
  ev := fun st => match b.ev st with
    | .xc st1 C n => if PySem.W.exmOne K (.ref C) (.ref cW) = some true then clr i (s.ev C n st1) else .no
    | o => o
  ok := fun md W st w => by
    have hb := fun W' => b.ok (.tr W') W' st rfl
    have tok : ∀ {o : Out}, (∀ W', Ex W' (b.ts (.tr W')) (sls K st) o) → o.quiet = true → Ex W (fun D σ H => b.ts (.tr (wAs K (.ref cW) i s.ts md.W D)) D σ H) (sls K st) o := fun {o} h hq => ⟨fun D s' q => (h _).run D s' (q.anyW hq)⟩
    cases he : b.ev st with
    | no => trivial
    | nx s' => rw [he] at hb; exact tok hb rfl
    | rt s' => rw [he] at hb; exact tok hb rfl
    | ro s' => rw [he] at hb; exact tok hb rfl
    | bk s' => rw [he] at hb; exact tok hb rfl
    | ct s' => rw [he] at hb; exact tok hb rfl
    | xc st1 C n =>
      rw [he] at hb
      show OcOk K md W _ _ (if PySem.W.exmOne K (.ref C) (.ref cW) = some true then clr i (s.ev C n st1) else .no)
      split
      · rename_i hm
        have hs := fun a d => s.ok W a d C n st1
        have tx : ∀ {o : Out}, (∀ a d, Ex W (s.ts a (.ref C) (some d)) ((sls K st1).set i (.p (errR a d n))) o) → Ex W (fun D σ H => b.ts (.tr (wAs K (.ref cW) i s.ts md.W D)) D σ H) (sls K st) (noSlot i o) := fun {o} h =>
          ⟨fun D s' q => (hb _ rfl).run D s' fun G' σ' H' d e s'' hd => ⟨true, hm, fun _ a ha => by
            have g := s''.grow (o := atF n) hd
            obtain ⟨G2, e2, s2⟩ := g.2.set_p (R := errR a d n) ⟨rfl, upd_same⟩ i
            exact (h a d).run _ s2 (q.slot.mono ((e.trans g.1).trans e2)), fun z => nomatch z⟩⟩
        cases hv : s.ev C n st1 with
        | no => trivial
        | xc _ _ _ => trivial
        | nx s' => rw [hv] at hs; show Ex _ _ _ (.nx (sls K (s'.set i .x))); rw [sls_set]; exact tx hs
        | bk s' => rw [hv] at hs; show Ex _ _ _ (.bk (sls K (s'.set i .x))); rw [sls_set]; exact tx hs
        | ct s' => rw [hv] at hs; show Ex _ _ _ (.ct (sls K (s'.set i .x))); rw [sls_set]; exact tx hs
        | rt s' => rw [hv] at hs; exact tx hs
        | ro s' => rw [hv] at hs; exact tx hs
      · trivial
def XE.errAt (i : Nat) (a : Addr) (cls : Value) (d : Option Addr) (kn : List Addr) (hk : ∀ C ∈ kn, XfC K C ∧ PySem.W.findIn K (.ref C) "at" = some none) : XE K := .of (fun _ => tXg K a cls d "at" i)
  (fun st => match cls, d, st[i]? with
    | .ref C, some d', some (.er a' d'' n) => if (a' = a ∧ d'' = d') ∧ C ∈ kn then .ok (.d (.int n)) else .no
    | _, _, _ => .no)
  fun md st => by
    split
    · rename_i C d' a' d'' n hi
      split
      · rename_i hc
        obtain ⟨⟨rfl, rfl⟩, hC⟩ := hc
        exact ev_at (sls_get (K := K) hi) (hk _ hC).1 (hk _ hC).2
      · trivial
    · trivial
def XE.isX (i : Nat) (a : Addr) (cls : Value) (d : Option Addr) (D : Addr) (kn : List Addr) (hk : ∀ C ∈ kn, ExcC K C) : XE K := .of (fun _ => tCB (rIsX K a cls d) (tCons (tVar i) (tCons (tC (.ref D)) tNil)))
  (fun st => match cls, d, st[i]? with
    | .ref C, some d', some (.er a' d'' n) => if (a' = a ∧ d'' = d') ∧ C ∈ kn then Rs.of ((PySem.W.kitOne K (.ref C) (.ref D)).map fun b => .d (.bool b)) else .no
    | _, _, _ => .no)
  fun md st => by
    split
    · rename_i C d' a' d'' n hi
      split
      · rename_i hc
        obtain ⟨⟨rfl, rfl⟩, hC⟩ := hc
        cases hb : PySem.W.kitOne K (.ref C) (.ref D) with
        | none => trivial
        | some b => exact ev_isX (sls_get (K := K) hi) (hk _ hC) hb
      · trivial
    · trivial
/-! instances -/
theorem lookup_map {f : Str} : ∀ {fs : List (Str × PyData)}, (fs.map fun p => (p.1, dat p.2)).lookup f = (fs.lookup f).map dat
  | [] => rfl
  | (g, d) :: fs => by
    rw [List.map_cons, List.lookup_cons, List.lookup_cons]
    cases f == g with
    | true => rfl
    | false => exact lookup_map
def XE.fld (C : Addr) (c : Cls K C) (f : Str) (hn : NoAttr K C f) (e : XE K) : XE K := .of (fun md => tFld K (e.te md) f)
  (fun st => (e.ev st).bind fun x => match x with
    | .i C' fs => if C' = C then Rs.of ((fs.lookup f).map Vl.d) else .no
    | _ => .no)
  fun md st => (e.ok md st).bind (fun C n W h => fun Q s q => h _ s q) fun x hx => by
    split
    · rename_i C' fs
      split
      · rename_i hc
        subst hc
        cases hl : fs.lookup f with
        | none => trivial
        | some d => exact ev_fld hx (by rw [lookup_map, hl]; rfl) c hn
      · trivial
    · trivial
def methT (md : Md) (C : Addr) (m : Str) (sp : Sp) (te : TE) (t : TA) : TE := match md with
  | .out E => tMeth C m sp [] E te t
  | .tr W => tMethSx C m sp (WE W) te t
  | .qu => tMeth C m sp [] (fun _ _ _ => False) te t
theorem meth_x {md : Md} {C : Addr} {m : Str} {sp : Sp} {te : TE} {t : TA} {ρ : List Sl} {W : WX} {D : Addr} {n : Int} (h : EvXg W te ρ D n) : EvXg W (methT md C m sp te t) ρ D n := by
  cases md with
  | out E => exact fun Q s q => h _ s q
  | tr W => exact fun Q s q => h _ s q
  | qu => exact fun Q s q => h _ s q
theorem meth_in {md : Md} {C : Addr} {m : Str} {sp : Sp} {te : TE} {t : TA} {ρ : List Sl} {W : WX} {D : Addr} {n : Int} {fs : List (Str × Rp)} (h0 : Ev te ρ (pu (insR C fs))) (hm : fs.lookup m = none) (h : EvXg W t ρ D n) : EvXg W (methT md C m sp te t) ρ D n := by
  cases md with
  | out E =>
    intro G σ L0 H Q s q
    refine h0.atp s fun G0 H0 v e0 s0 r0 => ?_
    obtain ⟨a, dx, fv, rfl, hH, hfl⟩ := id r0
    exact ⟨a, dx, fv, rfl, s0.same _ _ hH, hfl.no hm, h _ s0 fun G1 H1 d e1 s1 hd => q G1 H1 d (e0.trans e1) s1 hd⟩
  | tr W' =>
    intro G σ L0 H Q s q
    refine h0.atp s fun G0 H0 v e0 s0 r0 => ?_
    obtain ⟨a, dx, fv, rfl, hH, hfl⟩ := id r0
    exact ⟨a, dx, fv, rfl, s0.same _ _ hH, hfl.no hm, h _ s0 fun G1 H1 d e1 s1 hd => q G1 H1 d (e0.trans e1) s1 hd⟩
  | qu =>
    intro G σ L0 H Q s q
    refine h0.atp s fun G0 H0 v e0 s0 r0 => ?_
    obtain ⟨a, dx, fv, rfl, hH, hfl⟩ := id r0
    exact ⟨a, dx, fv, rfl, s0.same _ _ hH, hfl.no hm, h _ s0 fun G1 H1 d e1 s1 hd => q G1 H1 d (e0.trans e1) s1 hd⟩
/-- a method, as a function whose first argument is the object -/
theorem meth_args (F : Fn) (C : Addr) (m : Str) (te : TE) (as : XA K) (md : Md) (ρ : List Sl) (fs : List (Str × PyData)) (xs : List Av) (hl : xs.length + 1 = F.m) (h0 : Ev te ρ (pu (vr K (.i C fs)))) (hm : fs.lookup m = none) (h : EvA (as.ta md) ρ (xs.map (bw K))) :
    Cm md (methT md C m (F.sp K) te (as.ta md)) ρ (fun a => match F.own with
    | true => ∃ ds, a = .d (.list ds) ∧ EvN (methT md C m (F.sp K) te (as.ta md)) ρ ds
    | false => Ev (methT md C m (F.sp K) te (as.ta md)) ρ (pu (vr K a))) (match F.f (.v (.i C fs) :: xs), F.own with
    | .ok a, true => (match asL a with
      | some ds => .ok a
      | none => .no)
    | r, _ => r) := by
  have hm' : (fs.map fun p => (p.1, dat p.2)).lookup m = none := by rw [lookup_map, hm]; rfl
  have pre : ∀ {r : Rs Vl} {Q : VK} {E : XK} {G1 G0 : Hp} {L : List Cell} {H1 : Hp} {v : V} {vs : List V}, F.f (.v (.i C fs) :: xs) = r → r ≠ .no → (vr K (.i C fs)).p G0 v → Same G0 G1 → Lay G1 L H1 → AllB G1 L vs (xs.map (bw K)) → ResP Q E G1 L (resOf K F.own r) → F.sp K (v :: vs) H1 Q E := by
    intro r Q E G1 G0 L H1 v vs hr hn rv e1 la al rp
    refine ⟨⟨.v (.i C fs) :: xs, by rw [List.length_cons, hl]⟩, G1, L, by show F.f (.v (.i C fs) :: xs) ≠ .no; rw [hr]; exact hn, la, .cons ((vr K (.i C fs)).up e1 rv) al, ?_⟩
    show ResP Q E G1 L (resOf K F.own (F.f (.v (.i C fs) :: xs)))
    rw [hr]
    exact rp
  cases hf : F.f (.v (.i C fs) :: xs) with
  | no => simp only; trivial
  | ex D n =>
    simp only
    intro l W w
    cases md with
    | qu => cases l
    | out E =>
      subst w
      intro G σ L0 H Q s q
      refine h0.atp s fun G0 H0 v e0 s0 r0 => ?_
      obtain ⟨a, dx, fv, rfl, hH, hfl⟩ := id r0
      refine ⟨a, dx, fv, rfl, s0.same _ _ hH, hfl.no hm', h.at s0 fun G1 H1 vs L e1 sl la r => ?_⟩
      rw [List.append_nil]
      exact pre hf (fun z => nomatch z) r0 e1 la r fun G2 H2 d e2 l2 hd => q G2 H2 d ((e0.trans e1).trans e2) ⟨L, sl.up e2, l2⟩ hd
    | tr W' =>
      subst w
      intro G σ L0 H Q s q
      refine h0.atp s fun G0 H0 v e0 s0 r0 => ?_
      obtain ⟨a, dx, fv, rfl, hH, hfl⟩ := id r0
      refine ⟨a, dx, fv, rfl, s0.same _ _ hH, hfl.no hm', h.at s0 fun G1 H1 vs L e1 sl la r => ?_⟩
      exact pre hf (fun z => nomatch z) r0 e1 la r fun G2 H2 d e2 l2 hd => q G2 H2 d ((e0.trans e1).trans e2) ⟨L, sl.up e2, l2⟩ hd
  | ok a =>
    cases ho : F.own with
    | false =>
      simp only
      have rp : ∀ {Q : VK} {E : XK} {G1 : Hp} {L : List Cell}, (∀ G' H' v, Same G1 G' → Lay G' L H' → (vr K a).p G' v → Q v H') → ResP Q E G1 L (resOf K F.own (.ok a)) := fun {Q E G1 L} q => by
        rw [ho]
        exact q
      refine Ev.pure fun {G σ L0 H} Q s q => ?_
      cases md with
      | out E =>
        refine h0.atp s fun G0 H0 v e0 s0 r0 => ?_
        obtain ⟨b, dx, fv, rfl, hH, hfl⟩ := id r0
        refine ⟨b, dx, fv, rfl, s0.same _ _ hH, hfl.no hm', h.at s0 fun G1 H1 vs L e1 sl la r => ?_⟩
        rw [List.append_nil]
        exact pre hf (fun z => nomatch z) r0 e1 la r (rp fun G2 H2 v e2 l2 rv => q G2 H2 v ((e0.trans e1).trans e2) ⟨L, sl.up e2, l2⟩ rv)
      | qu =>
        refine h0.atp s fun G0 H0 v e0 s0 r0 => ?_
        obtain ⟨b, dx, fv, rfl, hH, hfl⟩ := id r0
        refine ⟨b, dx, fv, rfl, s0.same _ _ hH, hfl.no hm', h.at s0 fun G1 H1 vs L e1 sl la r => ?_⟩
        rw [List.append_nil]
        exact pre hf (fun z => nomatch z) r0 e1 la r (rp fun G2 H2 v e2 l2 rv => q G2 H2 v ((e0.trans e1).trans e2) ⟨L, sl.up e2, l2⟩ rv)
      | tr W' =>
        refine h0.atp s fun G0 H0 v e0 s0 r0 => ?_
        obtain ⟨b, dx, fv, rfl, hH, hfl⟩ := id r0
        refine ⟨b, dx, fv, rfl, s0.same _ _ hH, hfl.no hm', h.at s0 fun G1 H1 vs L e1 sl la r => ?_⟩
        exact pre hf (fun z => nomatch z) r0 e1 la r (rp fun G2 H2 v e2 l2 rv => q G2 H2 v ((e0.trans e1).trans e2) ⟨L, sl.up e2, l2⟩ rv)
    | true =>
      simp only
      cases hl2 : asL a with
      | none => simp only; trivial
      | some ds =>
        simp only
        have hR : resOf K F.own (.ok a) = .own (oL ds) := by rw [ho]; unfold resOf; simp only [hl2]
        have rp : ∀ {Q : VK} {E : XK} {G1 : Hp} {L : List Cell}, (∀ G2 H2 b cs, Same G1 G2 → Lay G2 (cs ++ L) H2 → (oL ds).p G2 b cs → Q (.ref b) H2) → ResP Q E G1 L (resOf K F.own (.ok a)) := fun {Q E G1 L} q => by
          rw [hR]
          exact q
        refine ⟨ds, ?_, ⟨fun {G σ L0 H} Q s q => ?_⟩⟩
        · cases a with
          | s _ => cases hl2
          | i _ _ => cases hl2
          | d x => cases x with
            | list es => cases hl2; rfl
            | _ => cases hl2
        · have fin : ∀ {G0 H0 G1 H1 : Hp} {L : List Cell}, Same G G0 → Same G0 G1 → Slots G1 L0 σ ρ L → Lay G1 (L ++ L0) H1 → ∀ G2 H2 b cs, Same G1 G2 → Lay G2 (cs ++ (L ++ L0)) H2 → (oL ds).p G2 b cs → Q (.ref b) H2 := by
            intro G0 H0 G1 H1 L e0 e1 sl la G2 H2 b cs e2 l2 ro
            obtain ⟨ws, hcs, d⟩ := ro
            subst hcs
            obtain ⟨H3, hn3, rfl, l3⟩ := Lay.uncell l2
            exact q G2 H3 _ ws ((e0.trans e1).trans e2) ⟨L, sl.up e2, l3⟩ hn3 d
          cases md with
          | out E =>
            refine h0.atp s fun G0 H0 v e0 s0 r0 => ?_
            obtain ⟨b, dx, fv, rfl, hH, hfl⟩ := id r0
            refine ⟨b, dx, fv, rfl, s0.same _ _ hH, hfl.no hm', h.at s0 fun G1 H1 vs L e1 sl la r => ?_⟩
            rw [List.append_nil]
            exact pre hf (fun z => nomatch z) r0 e1 la r (rp (fin (H0 := H0) e0 e1 sl la))
          | qu =>
            refine h0.atp s fun G0 H0 v e0 s0 r0 => ?_
            obtain ⟨b, dx, fv, rfl, hH, hfl⟩ := id r0
            refine ⟨b, dx, fv, rfl, s0.same _ _ hH, hfl.no hm', h.at s0 fun G1 H1 vs L e1 sl la r => ?_⟩
            rw [List.append_nil]
            exact pre hf (fun z => nomatch z) r0 e1 la r (rp (fin (H0 := H0) e0 e1 sl la))
          | tr W' =>
            refine h0.atp s fun G0 H0 v e0 s0 r0 => ?_
            obtain ⟨b, dx, fv, rfl, hH, hfl⟩ := id r0
            refine ⟨b, dx, fv, rfl, s0.same _ _ hH, hfl.no hm', h.at s0 fun G1 H1 vs L e1 sl la r => ?_⟩
            exact pre hf (fun z => nomatch z) r0 e1 la r (rp (fin (H0 := H0) e0 e1 sl la))
def instOf (C : Addr) (m : Str) : Vl → Rs (List (Str × PyData))
  | .i C' fs => if C' = C ∧ (fs.lookup m).isNone = true then .ok fs else .no
  | _ => .no
theorem instOf_ok {C : Addr} {m : Str} {v : Vl} {fs : List (Str × PyData)} (h : instOf C m v = .ok fs) : v = .i C fs ∧ fs.lookup m = none := by
  unfold instOf at h
  split at h
  · split at h
    · rename_i hc
      cases h
      exact ⟨by rw [hc.1], Option.isNone_iff_eq_none.mp hc.2⟩
    · cases h
  · cases h
theorem instOf_ex {C D : Addr} {m : Str} {v : Vl} {n : Int} : instOf C m v ≠ .ex D n := by
  unfold instOf
  split
  · split
    · exact fun z => nomatch z
    · exact fun z => nomatch z
  · exact fun z => nomatch z
def XE.meth (C : Addr) (m : Str) (F : Fn) (ho : F.own = false) (e : XE K) (as : XA K) : XE K := .of (fun md => methT md C m (F.sp K) (e.te md) (as.ta md))
  (fun st => (e.ev st).bind fun v => (instOf C m v).bind fun fs => (as.ev st).bind fun xs => if xs.length + 1 = F.m then F.f (.v (.i C fs) :: xs) else .no)
  fun md st => (e.ok md st).bind (fun C n W h => meth_x h) fun v hv => by
    cases hi : instOf C m v with
    | no => trivial
    | ex D n => exact absurd hi instOf_ex
    | ok fs =>
      obtain ⟨rfl, hm⟩ := instOf_ok hi
      refine (as.ok md st).bind (fun D n W h => meth_in hv (by rw [lookup_map, hm]; rfl) h) fun xs hx => ?_
      by_cases hl : xs.length + 1 = F.m
      · rw [if_pos hl]
        have := meth_args F C m (e.te md) as md (sls K st) fs xs hl hv hm hx
        rw [ho] at this
        cases hf : F.f (.v (.i C fs) :: xs) with
        | no => trivial
        | ex C n => rw [hf] at this; exact this
        | ok a => rw [hf] at this; exact this
      · rw [if_neg hl]; trivial
def XN.meth (C : Addr) (m : Str) (F : Fn) (ho : F.own = true) (e : XE K) (as : XA K) : XN K where
  te := fun md => methT md C m (F.sp K) (e.te md) (as.ta md)
  ev := fun st => (e.ev st).bind fun v => (instOf C m v).bind fun fs => (as.ev st).bind fun xs => if xs.length + 1 = F.m then (F.f (.v (.i C fs) :: xs)).bind lOf else .no
  ok := fun md st => (e.ok md st).bind (fun C n W h => meth_x h) fun v hv => by
    cases hi : instOf C m v with
    | no => trivial
    | ex D n => exact absurd hi instOf_ex
    | ok fs =>
      obtain ⟨rfl, hm⟩ := instOf_ok hi
      refine (as.ok md st).bind (fun D n W h => meth_in hv (by rw [lookup_map, hm]; rfl) h) fun xs hx => ?_
      by_cases hl : xs.length + 1 = F.m
      · rw [if_pos hl]
        have := meth_args F C m (e.te md) as md (sls K st) fs xs hl hv hm hx
        rw [ho] at this
        cases hf : F.f (.v (.i C fs) :: xs) with
        | no => trivial
        | ex C n => rw [hf] at this; exact this
        | ok a =>
          rw [hf] at this
          show Cm _ _ _ _ (lOf a)
          cases a with
          | s _ => trivial
          | i _ _ => trivial
          | d x =>
            cases x with
            | list ds =>
              obtain ⟨ds', e, h'⟩ := this
              cases e
              exact h'
            | _ => trivial
      · rw [if_neg hl]; trivial
end
end R

set_option Elab.async false
set_option linter.all false
set_option maxRecDepth 100000
set_option maxHeartbeats 2000000
namespace R
open PySem PySem.Spec PyProof.Rows L2 Z
/-! making an object -/
structure FnI where
  m : Nat
  f : List Av → Rs (List (Str × PyData))
def datF (fs : List (Str × PyData)) : List (Str × Rp) := fs.map fun p => (p.1, dat p.2)
def iresOf : Rs (List (Str × PyData)) → IRes
  | .ok fs => .ok (datF fs)
  | .ex D n => .err D n
  | .no => .ok []
def FnI.sp (K : PySem.W.Frag) (C : Addr) (F : FnI) : Sp := SpI (α := {xs : List Av // xs.length = F.m}) C (fun x => F.f x.1 ≠ .no) (fun x => x.1.map (bw K)) (fun x => iresOf (F.f x.1))
def makeT (md : Md) (C : Addr) (sp : Sp) (t : TA) : TE := match md with
  | .out E => tMake C sp [] E t
  | .tr W => tMakeS C sp (WE W) t
  | .qu => tMake C sp [] (fun _ _ _ => False) t
section
variable {K : PySem.W.Frag}
def XE.make (C : Addr) (F : FnI) (as : XA K) : XE K := .of (fun md => makeT md C (F.sp K C) (as.ta md))
  (fun st => (as.ev st).bind fun xs => if xs.length = F.m then (F.f xs).bind fun fs => .ok (.i C fs) else .no)
  fun md st => (as.ok md st).bind (fun C n W h => by
    cases md with
    | out E => exact fun Q s q => h _ s q
    | tr W => exact fun Q s q => h _ s q
    | qu => exact fun Q s q => h _ s q) fun xs h => by
    by_cases hm : xs.length = F.m
    · rw [if_pos hm]
      cases hf : F.f xs with
      | no => trivial
      | ex D n =>
        intro l W w
        have hR : iresOf (F.f (⟨xs, hm⟩ : {xs : List Av // xs.length = F.m}).1) = .err D n := by show iresOf (F.f xs) = _; rw [hf]; rfl
        have hp : F.f (⟨xs, hm⟩ : {xs : List Av // xs.length = F.m}).1 ≠ .no := by show F.f xs ≠ _; rw [hf]; exact fun z => nomatch z
        cases md with
        | qu => cases l
        | out E =>
          subst w
          exact fun {G σ L0 H} Q s q => (ex_make (α := {xs : List Av // xs.length = F.m}) (pre := fun x => F.f x.1 ≠ .no) (A := fun x => x.1.map (bw K)) (F := fun x => iresOf (F.f x.1)) ⟨xs, hm⟩ h hp hR).run Q s q
        | tr W' =>
          subst w
          exact fun {G σ L0 H} Q s q => (ex_makeS (α := {xs : List Av // xs.length = F.m}) (pre := fun x => F.f x.1 ≠ .no) (A := fun x => x.1.map (bw K)) (F := fun x => iresOf (F.f x.1)) ⟨xs, hm⟩ h hp hR).run Q s q
      | ok fs =>
        have hR : iresOf (F.f (⟨xs, hm⟩ : {xs : List Av // xs.length = F.m}).1) = .ok (datF fs) := by show iresOf (F.f xs) = _; rw [hf]; rfl
        have hp : F.f (⟨xs, hm⟩ : {xs : List Av // xs.length = F.m}).1 ≠ .no := by show F.f xs ≠ _; rw [hf]; exact fun z => nomatch z
        cases md with
        | out E => exact ev_make (α := {xs : List Av // xs.length = F.m}) (pre := fun x => F.f x.1 ≠ .no) (A := fun x => x.1.map (bw K)) (F := fun x => iresOf (F.f x.1)) ⟨xs, hm⟩ h hp hR
        | tr W' => exact ev_makeS (α := {xs : List Av // xs.length = F.m}) (pre := fun x => F.f x.1 ≠ .no) (A := fun x => x.1.map (bw K)) (F := fun x => iresOf (F.f x.1)) ⟨xs, hm⟩ h hp hR
        | qu => exact ev_make (α := {xs : List Av // xs.length = F.m}) (pre := fun x => F.f x.1 ≠ .no) (A := fun x => x.1.map (bw K)) (F := fun x => iresOf (F.f x.1)) ⟨xs, hm⟩ h hp hR
    · rw [if_neg hm]; trivial
def XS.setfld (i : Nat) (C : Addr) (c : Cls K C) (f : Str) (hn : NoAttr K C f) (e : XE K) : XS K where
  ts := fun md => sFld K (tVar i) (e.te md) f
  ev := fun st => match st[i]? with
    | some (.oi C' a fs) => if C' = C ∧ (fs.lookup f).isNone = true ∧ fs.length < 1000 then (e.ev st).oc st fun v => match v with
      | .d d => .nx (st.set i (.oi C a (fs ++ [(f, d)])))
      | _ => .no else .no
    | _ => .no
  ok := fun md W st w => by
    split
    · rename_i C' a fs hi
      split
      · rename_i hc
        obtain ⟨rfl, h1, h2⟩ := hc
        refine oc_ok w (e.ok md st) (fun D n h => ⟨fun D s q => h _ s fun G' H' d e s' hd => q G' _ H' d e s' hd⟩) fun v hv => ?_
        split
        · rename_i d
          show Ex _ _ _ (.nx (sls K (st.set i (.oi C' a (fs ++ [(f, d)])))))
          rw [sls_set]
          have := Ex.setfld (W := W) (fs := datF fs) (sls_get (K := K) hi) hv (by unfold datF; rw [lookup_map, Option.isNone_iff_eq_none.mp h1]; rfl) (by unfold datF; rw [List.length_map]; exact h2) c hn
          have e2 : sl K (.oi C' a (fs ++ [(f, d)])) = .o (oI C' a (datF fs ++ [(f, dat d)])) := by
            show Sl.o (oI C' a ((fs ++ [(f, d)]).map _)) = _
            rw [List.map_append]
            rfl
          rw [e2]
          exact this
        · trivial
      · trivial
    · trivial
/-! a function's start -/
def avS : Av → Sv
  | .v a => .v a
  | .l ds => .bl ds
def start (xs : List Av) (k : Nat) : List Sv := xs.map avS ++ List.replicate k .x
theorem slots_b {G : Hp} {L0 : List Cell} {k : Nat} : ∀ {xs : List Av} {σ : L2.St} {L : List Cell}, Slots G L0 σ (st0 (xs.map (bw K)) k) L → Slots G L0 σ (sls K (start xs k)) L
  | [], σ, L, h => by
    have e : sls K (start [] k) = st0 (([] : List Av).map (bw K)) k := by
      unfold sls start st0
      simp [sl]
    rw [e]
    exact h
  | .v a :: xs, σ, L, h => by
    have h : Slots G L0 σ (Sl.b (pu (vr K a)) :: st0 (xs.map (bw K)) k) L := h
    show Slots G L0 σ (Sl.p (vr K a) :: sls K (start xs k)) L
    cases h with
    | b h1 h2 => exact .p h1 (slots_b h2)
  | .l ds :: xs, σ, L, h => by
    have h : Slots G L0 σ (Sl.b (bL ds) :: st0 (xs.map (bw K)) k) L := h
    show Slots G L0 σ (Sl.b (bL ds) :: sls K (start xs k)) L
    cases h with
    | b h1 h2 => exact .b h1 (slots_b h2)
theorem ex_start {t : TS} {W : WX} {o : Out} {xs : List Av} {k : Nat} (h : Ex W t (sls K (start xs k)) o) : Ex W t (st0 (xs.map (bw K)) k) o := ⟨fun D s q => by
  obtain ⟨L, sl, la⟩ := s
  exact h.run D ⟨L, slots_b sl, la⟩ q⟩
def Oc.res (own : Bool) : Oc → Rs Vl
  | .rt v => if own then .no else .ok v
  | .ro ds => if own then .ok (.d (.list ds)) else .no
  | .nx _ => if own then .no else .ok (.d .none)
  | .xc _ C n => .ex C n
  | _ => .no
def runX (s : XS K) (own : Bool) (k : Nat) (xs : List Av) : Rs Vl := (s.ev (start xs k)).res own
theorem Fn.run {F : Fn} {vs : List V} {H : Hp} {Q : VK} {E : XK} (s : XS K) (N : List Str) (h : F.sp K vs H Q E) (hs : ∀ xs : List Av, xs.length = F.m → F.f xs ≠ .no → runX s F.own (N.length - F.m) xs = F.f xs) :
    s.ts (.out E) { nx := fun _ H' => Q .non H', rt := Q } (L2.start N vs) H := by
  refine SpA.goN h N F.m (fun x => by rw [List.length_map]; exact x.2) fun x hp => ?_
  have hx := hs x.1 x.2 hp
  have hk := s.ok (.out E) (WofE E) (start x.1 (N.length - F.m)) rfl
  unfold runX at hx
  cases he : s.ev (start x.1 (N.length - F.m)) with
  | no => rw [he] at hx; exact absurd hx.symm hp
  | bk _ => rw [he] at hx; exact absurd hx.symm hp
  | ct _ => rw [he] at hx; exact absurd hx.symm hp
  | nx st =>
    rw [he] at hx hk
    cases ho : F.own with
    | true => rw [ho] at hx; exact absurd hx.symm hp
    | false =>
      rw [ho] at hx
      refine .inl ⟨_, ?_, ex_start hk⟩
      show resOf K _ (F.f x.1) = _
      rw [← hx]
      rfl
  | rt a =>
    rw [he] at hx hk
    cases ho : F.own with
    | true => rw [ho] at hx; exact absurd hx.symm hp
    | false =>
      rw [ho] at hx
      refine .inr ⟨.ok (vr K a), [], ?_, ex_start hk⟩
      show resOf K _ (F.f x.1) = _
      rw [← hx]
      rfl
  | ro ds =>
    rw [he] at hx hk
    cases ho : F.own with
    | false => rw [ho] at hx; exact absurd hx.symm hp
    | true =>
      rw [ho] at hx
      refine .inr ⟨.own (oL ds), [], ?_, ex_start hk⟩
      show resOf K _ (F.f x.1) = _
      rw [← hx]
      rfl
  | xc st C n =>
    rw [he] at hx hk
    refine .inr ⟨.err C n, _, ?_, ex_start (hk rfl)⟩
    show resOf K F.own (F.f x.1) = _
    rw [← hx]
    rfl
def startI (C a : Addr) (xs : List Av) (k : Nat) : List Sv := .oi C a [] :: start xs k
def Oc.resI (C a : Addr) : Oc → Rs (List (Str × PyData))
  | .nx st => match st[(0 : Nat)]? with
    | some (.oi C' a' fs) => if C' = C ∧ a' = a then .ok fs else .no
    | _ => .no
  | .xc _ D n => .ex D n
  | _ => .no
def runI (s : XS K) (C a : Addr) (k : Nat) (xs : List Av) : Rs (List (Str × PyData)) := (s.ev (startI C a xs k)).resI C a
theorem ex_startI {t : TS} {W : WX} {o : Out} {C a : Addr} {xs : List Av} {k : Nat} (h : Ex W t (sls K (startI C a xs k)) o) : Ex W t (stI C a (xs.map (bw K)) k) o := ⟨fun D s q => by
  obtain ⟨L, sl, la⟩ := s
  have sl : Slots _ _ _ (Sl.o (oI C a []) :: st0 (xs.map (bw K)) k) L := sl
  cases sl with
  | o h1 h2 => exact h.run D ⟨_, .o h1 (slots_b h2), la⟩ q⟩
theorem FnI.run {F : FnI} {C : Addr} {vs : List V} {H : Hp} {Q : VK} {E : XK} (s : XS K) (N : List Str) (h : F.sp K C vs H Q E) (hs : ∀ xs : List Av, xs.length = F.m → F.f xs ≠ .no → ∀ a, runI s C a (N.length - (F.m + 1)) xs = F.f xs) :
    s.ts (.out E) { nx := fun _ H' => Q .non H', rt := Q } (L2.start N vs) H := by
  refine SpI.run (N := N) h (fun x => by rw [List.length_map]; exact x.2) fun x a hp => ?_
  have hx := hs x.1 x.2 hp a
  have hk := s.ok (.out E) (WofE E) (startI C a x.1 (N.length - (F.m + 1))) rfl
  unfold runI at hx
  cases he : s.ev (startI C a x.1 (N.length - (F.m + 1))) with
  | no => rw [he] at hx; exact absurd hx.symm hp
  | bk _ => rw [he] at hx; exact absurd hx.symm hp
  | ct _ => rw [he] at hx; exact absurd hx.symm hp
  | rt _ => rw [he] at hx; exact absurd hx.symm hp
  | ro _ => rw [he] at hx; exact absurd hx.symm hp
  | xc st D n =>
    rw [he] at hx hk
    refine .inr ⟨D, n, _, ?_, ex_startI (hk rfl)⟩
    show iresOf (F.f x.1) = _
    rw [← hx]
    rfl
  | nx st =>
    rw [he] at hx hk
    have hx2 : (match st[(0 : Nat)]? with
      | some (.oi C' a' fs) => if C' = C ∧ a' = a then Rs.ok fs else .no
      | _ => .no) = F.f x.1 := hx
    cases hst : st[(0 : Nat)]? with
    | none => rw [hst] at hx2; exact absurd hx2.symm hp
    | some sv =>
      rw [hst] at hx2
      cases sv with
      | oi C' a' fs =>
        simp only at hx2
        by_cases hc : C' = C ∧ a' = a
        · rw [if_pos hc] at hx2
          obtain ⟨rfl, rfl⟩ := hc
          refine .inl ⟨datF fs, _, ?_, sls_get (K := K) hst, ex_startI hk⟩
          show iresOf (F.f x.1) = _
          rw [← hx2]
          rfl
        · rw [if_neg hc] at hx2; exact absurd hx2.symm hp
      | _ => exact absurd hx2.symm hp
end
end R

set_option Elab.async false
set_option linter.all false
set_option maxRecDepth 100000
set_option maxHeartbeats 2000000
namespace R
open PySem PySem.Spec PyProof.Rows L2 Z
section
variable {K : PySem.W.Frag}
/-! operators of ints -/
def O2.int0 (g : Int → Int → Int) : O2 K where
  r := rI0 fun i j => .int (g i j)
  ka := false
  kb := false
  f := fun x y => match x, y with
    | .v (.d (.int i)), .v (.d (.int j)) => some (.d (.int (g i j)))
    | _, _ => none
  ok := fun x y z h => by
    split at h
    · cases h; exact o_int0
    · cases h
def O2.bool0 (g : Int → Int → Bool) : O2 K where
  r := rI0 fun i j => .bl (g i j)
  ka := false
  kb := false
  f := fun x y => match x, y with
    | .v (.d (.int i)), .v (.d (.int j)) => some (.d (.bool (g i j)))
    | _, _ => none
  ok := fun x y z h => by
    split at h
    · cases h; exact o_bool0
    · cases h
def O2.intC (C : Int → Int → Prop) [∀ i j, Decidable (C i j)] (g : Int → Int → Int) : O2 K where
  r := rI C fun i j => .int (g i j)
  ka := false
  kb := false
  f := fun x y => match x, y with
    | .v (.d (.int i)), .v (.d (.int j)) => if C i j then some (.d (.int (g i j))) else none
    | _, _ => none
  ok := fun x y z h => by
    split at h
    · split at h
      · cases h; exact o_intC (by assumption)
      · cases h
    · cases h
def O2.add : O2 K := .int0 fun i j => i + j
def O2.sub : O2 K := .int0 fun i j => i - j
def O2.lt : O2 K := .bool0 fun i j => decide (i < j)
def O2.le : O2 K := .bool0 fun i j => decide (i ≤ j)
def O2.gt : O2 K := .bool0 fun i j => decide (j < i)
def O2.ge : O2 K := .bool0 fun i j => decide (j ≤ i)
instance (i j : Int) : Decidable (CMul i j) := by unfold CMul; exact inferInstance
instance (i j : Int) : Decidable (CMulW i j) := by unfold CMulW; exact inferInstance
instance (i j : Int) : Decidable (CDivW i j) := by unfold CDivW; exact inferInstance
instance (i j : Int) : Decidable (CPow i j) := by unfold CPow; exact inferInstance
/-- of bounded size, or one of them small -/
def CMulU (i j : Int) : Prop := i.natAbs < 18446744073709551616 ∨ j.natAbs < 18446744073709551616 ∨ CMulW i j
instance (i j : Int) : Decidable (CMulU i j) := by unfold CMulU; exact inferInstance
theorem CMulU.ok {i j : Int} (h : CMulU i j) : IntMulOk i j := by
  rcases h with h | h | h
  · exact CMul.ok (.inl ⟨by omega, by omega⟩)
  · exact CMul.ok (.inr ⟨by omega, by omega⟩)
  · exact h.ok
theorem op_mulU {X : Cx} : OpR X (binaryOp .Mult) (rI CMulU fun i j => .int (i * j)) := opI fun _ _ _ _ _ _ _ hc q => mul_int q hc.ok
def O2.mul : O2 K := .intC CMulU fun i j => i * j
/-- // by a divisor of less than 9000 bits that is not 0 -/
def CDivU (_ j : Int) : Prop := j ≠ 0 ∧ j.natAbs.log2 < 9000
instance (i j : Int) : Decidable (CDivU i j) := by unfold CDivU; exact inferInstance
theorem op_fdivU {X : Cx} : OpR X (binaryOp .FloorDiv) (rI CDivU fun i j => .int (i.fdiv j)) := opI fun _ _ _ _ _ _ _ hc q => floordiv_int hc.1 q (.inl (PyProof.noPylong_of_log2 hc.2))
def O2.div : O2 K := .intC CDivW fun i j => i / j
def O2.divU : O2 K := .intC CDivU fun i j => i.fdiv j
def O2.mod : O2 K := .intC (fun _ j => 0 < j) fun i j => i % j
def O2.pow : O2 K := .intC CPow fun i j => i ^ j.toNat
def O2.shl : O2 K := .intC CPow fun i j => i * 2 ^ j.toNat
def O2.shr : O2 K := .intC (fun _ j => 0 ≤ j) fun i j => i / 2 ^ j.toNat
def O2.band : O2 K := .int0 fun i j => Builtin.bitAnd i j
/-! equality -/
def O2.eq : O2 K where
  r := rEq
  ka := false
  kb := false
  f := fun x y => match x, y with
    | .v (.d (.int i)), .v (.d (.int j)) => some (.d (.bool (decide (i = j))))
    | .v (.d (.str i)), .v (.d (.str j)) => some (.d (.bool (decide (i = j))))
    | _, _ => none
  ok := fun x y z h => by
    split at h
    · cases h; exact o_eqI
    · cases h; exact o_eqS
    · cases h
def O2.ne : O2 K where
  r := rNe
  ka := false
  kb := false
  f := fun x y => match x, y with
    | .v (.d (.int i)), .v (.d (.int j)) => some (.d (.bool (!decide (i = j))))
    | .v (.d (.str i)), .v (.d (.str j)) => some (.d (.bool (!decide (i = j))))
    | _, _ => none
  ok := fun x y z h => by
    split at h
    · cases h; exact o_neI
    · cases h; exact o_neS
    · cases h
def O2.eqD : O2 K where
  r := rEqD K
  ka := false
  kb := false
  f := fun x y => match x, y with
    | .v (.d a), .v (.d b) => if SeqAt.shaped a = true ∧ SeqAt.shaped b = true then some (.d (.bool (PyData.eqv a b))) else none
    | _, _ => none
  ok := fun x y z h => by
    split at h
    · split at h
      · rename_i hc
        cases h; exact o_eqD hc.1 hc.2
      · cases h
    · cases h
def O2.neD : O2 K where
  r := rNeD K
  ka := false
  kb := false
  f := fun x y => match x, y with
    | .v (.d a), .v (.d b) => if SeqAt.shaped a = true ∧ SeqAt.shaped b = true then some (.d (.bool (!PyData.eqv a b))) else none
    | _, _ => none
  ok := fun x y z h => by
    split at h
    · split at h
      · rename_i hc
        cases h; exact o_neD hc.1 hc.2
      · cases h
    · cases h
theorem o_neDL {ds : List PyData} {e : PyData} (hd : SeqAt.shaped (.list ds) = true) (he : SeqAt.shaped e = true) : Op2 (rNeD K) (bL ds) (pu (dat e)) (dB (!PyData.eqv (.list ds) e)) := fun G H L x y Q l hx hy q => by
  obtain ⟨a, vs, rfl, h, d⟩ := bl_sq l hx
  exact ⟨.list ds, e, dq_dp (Dq.lst h (dpAll_up l.same d)), dq_dp (dp_up l.same hy), hd, he, q _ (Dq.bl _)⟩
/-- != of a list that is lent -/
def O2.neL : O2 K where
  r := rNeD K
  ka := true
  kb := false
  f := fun x y => match x, y with
    | .l ds, .v (.d b) => if SeqAt.shaped (.list ds) = true ∧ SeqAt.shaped b = true then some (.d (.bool (!PyData.eqv (.list ds) b))) else none
    | _, _ => none
  ok := fun x y z h => by
    split at h
    · split at h
      · rename_i hc
        cases h; exact o_neDL hc.1 hc.2
      · cases h
    · cases h
def O2.isN : O2 K where
  r := fun x y H Q => y = .non ∧ Q (.bl (decide (x = .non))) H
  ka := false
  kb := false
  f := fun x y => match x, y with
    | .v (.d a), .v (.d .none) => some (.d (.bool (isNone a)))
    | _, _ => none
  ok := fun x y z h => by
    split at h
    · cases h; exact o_isN
    · cases h
def O2.notN : O2 K where
  r := fun x y H Q => y = .non ∧ Q (.bl (!decide (x = .non))) H
  ka := false
  kb := false
  f := fun x y => match x, y with
    | .v (.d a), .v (.d .none) => some (.d (.bool (!isNone a)))
    | _, _ => none
  ok := fun x y z h => by
    split at h
    · cases h; exact o_notN
    · cases h
def O2.isB : O2 K where
  r := rIsB
  ka := false
  kb := false
  f := fun x y => match x, y with
    | .v (.d (.bool a)), .v (.d (.bool b)) => some (.d (.bool (decide (a = b))))
    | _, _ => none
  ok := fun x y z h => by
    split at h
    · cases h
      exact fun G H L x y Q _ hx hy q => by
        cases hx; cases hy
        exact ⟨_, _, rfl, rfl, q _ (Dq.bl _)⟩
    · cases h
def O2.notB : O2 K where
  r := rNotB
  ka := false
  kb := false
  f := fun x y => match x, y with
    | .v (.d (.bool a)), .v (.d (.bool b)) => some (.d (.bool (!decide (a = b))))
    | _, _ => none
  ok := fun x y z h => by
    split at h
    · cases h
      exact fun G H L x y Q _ hx hy q => by
        cases hx; cases hy
        exact ⟨_, _, rfl, rfl, q _ (Dq.bl _)⟩
    · cases h
/-! places -/
def O2.ixL : O2 K where
  r := rIxL K
  ka := true
  kb := false
  f := fun x y => match x, y with
    | .l ds, .v (.d (.int i)) => (atI ds i).map Vl.d
    | _, _ => none
  ok := fun x y z h => by
    split at h
    · obtain ⟨d, h1, h2⟩ := Option.map_eq_some_iff.mp h
      cases h2
      exact o_ixL h1
    · cases h
def O2.ixS : O2 K where
  r := rIxL K
  ka := false
  kb := false
  f := fun x y => match x, y with
    | .v (.s xs), .v (.d (.int i)) => if 0 ≤ i then (xs[i.toNat]?).map fun n => .d (.int n) else none
    | _, _ => none
  ok := fun x y z h => by
    split at h
    · split at h
      · obtain ⟨d, h1, h2⟩ := Option.map_eq_some_iff.mp h
        cases h2
        exact o_ixS (by assumption) h1
      · cases h
    · cases h
def O2.ixT : O2 K where
  r := rIxT K
  ka := false
  kb := false
  f := fun x y => match x, y with
    | .v (.d (.tuple ds)), .v (.d (.int i)) => (atI ds i).map Vl.d
    | _, _ => none
  ok := fun x y z h => by
    split at h
    · obtain ⟨d, h1, h2⟩ := Option.map_eq_some_iff.mp h
      cases h2
      exact o_ixT h1
    · cases h
def intsOf : List PyData → Option (List Int)
  | [] => some []
  | .int n :: r => (intsOf r).map (n :: ·)
  | _ => none
theorem intsOf_some : ∀ {ds : List PyData} {ns : List Int}, intsOf ds = some ns → ds = ns.map .int
  | [], ns, h => by cases h; rfl
  | d :: r, ns, h => by
    cases d with
    | int n =>
      obtain ⟨ms, h1, h2⟩ := Option.map_eq_some_iff.mp (show (intsOf r).map (n :: ·) = some ns from h)
      subst h2
      rw [List.map_cons, intsOf_some h1]
    | _ => cases h
theorem intsOf_map : ∀ ns : List Int, intsOf (ns.map .int) = some ns
  | [] => rfl
  | n :: ns => by
    show (intsOf (ns.map .int)).map (n :: ·) = _
    rw [intsOf_map ns]
    rfl
def boolsOf : List PyData → Option (List Bool)
  | [] => some []
  | .bool n :: r => (boolsOf r).map (n :: ·)
  | _ => none
theorem boolsOf_some : ∀ {ds : List PyData} {ns : List Bool}, boolsOf ds = some ns → ds = ns.map .bool
  | [], ns, h => by cases h; rfl
  | d :: r, ns, h => by
    cases d with
    | bool n =>
      obtain ⟨ms, h1, h2⟩ := Option.map_eq_some_iff.mp (show (boolsOf r).map (n :: ·) = some ns from h)
      subst h2
      rw [List.map_cons, boolsOf_some h1]
    | _ => cases h
theorem boolsOf_map : ∀ ns : List Bool, boolsOf (ns.map .bool) = some ns
  | [] => rfl
  | n :: ns => by
    show (boolsOf (ns.map .bool)).map (n :: ·) = _
    rw [boolsOf_map ns]
    rfl
def O2.inL : O2 K where
  r := rIn K false
  ka := false
  kb := true
  f := fun x y => match x, y with
    | .v (.d (.int n)), .l ds => (intsOf ds).map fun ns => .d (.bool (decide (n ∈ ns)))
    | _, _ => none
  ok := fun x y z h => by
    split at h
    · obtain ⟨ns, h1, h2⟩ := Option.map_eq_some_iff.mp h
      cases h2
      rw [intsOf_some h1]
      exact o_inL
    · cases h
def O2.notInL : O2 K where
  r := rIn K true
  ka := false
  kb := true
  f := fun x y => match x, y with
    | .v (.d (.int n)), .l ds => (intsOf ds).map fun ns => .d (.bool (!decide (n ∈ ns)))
    | _, _ => none
  ok := fun x y z h => by
    split at h
    · obtain ⟨ns, h1, h2⟩ := Option.map_eq_some_iff.mp h
      cases h2
      rw [intsOf_some h1]
      exact o_notInL
    · cases h
/-! lists put together -/
def O2N.cat : O2N K where
  r := rCat
  ka := true
  kb := true
  f := fun x y => match x, y with
    | .l ds, .l es => if ds.length + es.length ≤ 1000000 then some (ds ++ es) else none
    | _, _ => none
  ok := fun x y z h => by
    split at h
    · split at h
      · cases h; exact o_cat (by assumption)
      · cases h
    · cases h
def O2N.rep : O2N K where
  r := rRep
  ka := true
  kb := false
  f := fun x y => match x, y with
    | .l ds, .v (.d (.int k)) => if ds.length * k.toNat ≤ 1000000 ∧ k.natAbs < 9223372036854775808 then some (List.replicate k.toNat ds).flatten else none
    | _, _ => none
  ok := fun x y z h => by
    split at h
    · split at h
      · rename_i hc
        cases h; exact o_rep hc.1 (by omega) (by omega)
      · cases h
    · cases h
/-! builtins -/
def Bi.len : Bi K where
  r := cLen K
  f := fun as => match as with
    | [.l ds] => some (.d (.int ds.length))
    | [.v (.s xs)] => some (.d (.int xs.length))
    | _ => none
  ok := fun as z h => by
    split at h
    · cases h; exact cl_len
    · cases h; exact cl_lenS
    · cases h
def Bi.abs : Bi K where
  r := cAbs
  f := fun as => match as with
    | [.v (.d (.int n))] => some (.d (.int (if n < 0 then -n else n)))
    | _ => none
  ok := fun as z h => by
    split at h
    · cases h; exact cl_abs
    · cases h
def Bi.min2 : Bi K where
  r := cMin2
  f := fun as => match as with
    | [.v (.d (.int m)), .v (.d (.int n))] => some (.d (.int (if n < m then n else m)))
    | _ => none
  ok := fun as z h => by
    split at h
    · cases h; exact cl_min2
    · cases h
def Bi.max2 : Bi K where
  r := cMax2
  f := fun as => match as with
    | [.v (.d (.int m)), .v (.d (.int n))] => some (.d (.int (if n > m then n else m)))
    | _ => none
  ok := fun as z h => by
    split at h
    · cases h; exact cl_max2
    · cases h
def Bi.int : Bi K where
  r := cInt
  f := fun as => match as with
    | [.v (.d (.int n))] => some (.d (.int n))
    | [.v (.d (.bool b))] => some (.d (.int (if b then 1 else 0)))
    | _ => none
  ok := fun as z h => by
    split at h
    · cases h; exact cl_int
    · cases h; exact cl_intB
    · cases h
def Bi.sum : Bi K where
  r := rSum K
  f := fun as => match as with
    | [.l ds] => (intsOf ds).map fun ns => .d (.int ns.sum)
    | _ => none
  ok := fun as z h => by
    split at h
    · obtain ⟨ns, h1, h2⟩ := Option.map_eq_some_iff.mp h
      cases h2
      rw [intsOf_some h1]
      exact cl_sum
    · cases h
def Bi.any : Bi K where
  r := rAny K
  f := fun as => match as with
    | [.l ds] => (boolsOf ds).map fun ns => .d (.bool (ns.any id))
    | _ => none
  ok := fun as z h => by
    split at h
    · obtain ⟨ns, h1, h2⟩ := Option.map_eq_some_iff.mp h
      cases h2
      rw [boolsOf_some h1]
      exact cl_any
    · cases h
def Bi.all : Bi K where
  r := rAll K
  f := fun as => match as with
    | [.l ds] => (boolsOf ds).map fun ns => .d (.bool (ns.all id))
    | _ => none
  ok := fun as z h => by
    split at h
    · obtain ⟨ns, h1, h2⟩ := Option.map_eq_some_iff.mp h
      cases h2
      rw [boolsOf_some h1]
      exact cl_all
    · cases h
def BiN.list : BiN K where
  r := cList K
  f := fun as => match as with
    | [.l ds] => some ds
    | _ => none
  ok := fun as z h => by
    split at h
    · cases h; exact cl_list
    · cases h
def Bi.gcd : Bi K where
  r := rGcd
  f := fun as => match as with
    | [.v (.d (.int a)), .v (.d (.int b))] => some (.d (.int ((Nat.gcd a.natAbs b.natAbs : Nat) : Int)))
    | _ => none
  ok := fun as z h => by
    split at h
    · cases h
      exact fun G H L vs Q l r q => by
        cases r with
        | cons h1 t =>
          cases t with
          | cons h2 t =>
            cases t; cases h1; cases h2
            exact ⟨_, _, rfl, q _ (Dq.int _)⟩
    · cases h
def rLcm : List V → Hp → VK → Prop := fun vs H Q => ∃ a b : Int, vs = [.int a, .int b] ∧ (a.natAbs.log2 < 9000 ∧ b.natAbs.log2 < 9000) ∧ Q (.int ((Nat.lcm a.natAbs b.natAbs : Nat) : Int)) H
theorem log_pow {n k : Nat} (h : n.log2 < k) : n < 2 ^ k := by
  by_cases z : n = 0
  · rw [z]; exact Nat.two_pow_pos k
  · exact (Nat.log2_lt z).mp h
theorem cr_lcm {X : Cx} : CallR X (.builtin "math.lcm") rLcm := by
  intro pins s σ H vs us Q I r h
  obtain ⟨a, b, rfl, ⟨ha, hb⟩, q⟩ := h
  obtain ⟨t, u, rfl⟩ := Vals.int2 r
  have e : Nat.lcm 1 a.natAbs = a.natAbs := by simp [Nat.lcm]
  have h1 : (max 1 a.natAbs).log2 < 9000 := by
    rcases Nat.le_total 1 a.natAbs with z | z
    · rw [Nat.max_eq_right z]; exact ha
    · rw [Nat.max_eq_left z]; decide
  have h2 : (max a.natAbs b.natAbs).log2 < 9000 := by
    rcases Nat.le_total a.natAbs b.natAbs with z | z
    · rw [Nat.max_eq_right z]; exact hb
    · rw [Nat.max_eq_left z]; exact ha
  have hl : (a.natAbs.lcm b.natAbs) < 2 ^ (18000 + 1) := by
    have := PySem.W.mc_lcm_le a.natAbs b.natAbs
    refine Nat.lt_of_le_of_lt this ?_
    have := Nat.mul_lt_mul'' (log_pow ha) (log_pow hb)
    rw [← Nat.pow_add] at this
    exact Nat.lt_of_lt_of_le this (Nat.pow_le_pow_right (by decide) (by decide))
  have hsz : ((((Nat.lcm 1 a.natAbs).lcm b.natAbs : Nat) : Int)).natAbs.log2 < bitsLine := by
    rw [e, Int.natAbs_natCast]
    have := PySem.W.mg_log hl
    have e2 : bitsLine = 134217728 := by decide
    omega
  have g := (PySem.W.mg_run_lcm a t b u (by omega) (by omega) hsz).meets
  exact call_function_meets PySem.W.MGF.kind_lcm PySem.W.MGF.plain_lcm PySem.W.MGF.entry_lcm (PySem.W.MGF.args_lcm _ _) g (by rw [e]; exact ⟨.int _, H, I.tok _, ⟨_, rfl⟩, q⟩)
def Bi.lcm : Bi K where
  r := rLcm
  f := fun as => match as with
    | [.v (.d (.int a)), .v (.d (.int b))] => if a.natAbs.log2 < 9000 ∧ b.natAbs.log2 < 9000 then some (.d (.int ((Nat.lcm a.natAbs b.natAbs : Nat) : Int))) else none
    | _ => none
  ok := fun as z h => by
    split at h
    · split at h
      · rename_i hc
        cases h
        exact fun G H L vs Q l r q => by
          cases r with
          | cons h1 t =>
            cases t with
            | cons h2 t =>
              cases t; cases h1; cases h2
              exact ⟨_, _, rfl, hc, q _ (Dq.int _)⟩
      · cases h
    · cases h
/-! a part of the script -/
theorem cut_ints {xs : List Int} {lo hi : Option Int} {G : Hp} : DqAll G (cutV (xs.map V.int) lo hi) (cutD (xs.map PyData.int) lo hi) := cut_all (dpAll_of_ints xs) lo hi
def XN.slS (e : XE K) (lo hi : XO K) : XN K where
  te := fun md => tSl (rSlL K) (e.te md) (lo.to md) (hi.to md)
  ev := fun st => match okV (e.ev st), okV (lo.ev st), okV (hi.ev st) with
    | some (.s xs), some l, some h => .ok (cutD (xs.map .int) l h)
    | _, _, _ => .no
  ok := fun md st => by
    split
    · rename_i xs l u h1 h2 h3
      have o0 := e.ok md st
      have o1 := lo.ok md st
      have o2 := hi.ok md st
      rw [okV_some h1] at o0
      rw [okV_some h2] at o1
      rw [okV_some h3] at o2
      exact ⟨fun Q s q => o0.run _ s fun G1 H1 v e1 s1 r => o1.run _ s1 fun G2 H2 e2 s2 => o2.run _ s2 fun G3 H3 e3 s3 => by
        obtain ⟨L, a, b⟩ := id s3
        obtain ⟨p, rfl, hv⟩ := r G3 L H3 (e2.trans e3) a b
        exact ⟨p, _, rfl, sqL_up b.same hv, fun n hn => q G3 H3 n _ ((e1.trans e2).trans e3) s3 hn cut_ints⟩⟩
    · trivial
def zipD : List PyData → List PyData → List PyData
  | d :: ds, e :: es => .tuple [d, e] :: zipD ds es
  | _, _ => []
theorem zipD_len : ∀ (ds es : List PyData), (zipD ds es).length = min ds.length es.length
  | [], es => by simp [zipD]
  | d :: ds, [] => by simp [zipD]
  | d :: ds, e :: es => by
    show (zipD ds es).length + 1 = _
    rw [zipD_len ds es]
    simp only [List.length_cons]
    omega
theorem zipD_get : ∀ (ds es : List PyData) (i : Nat) (h : i < (zipD ds es).length) (h1 : i < ds.length) (h2 : i < es.length), (zipD ds es)[i] = .tuple [ds[i], es[i]]
  | [], es, i, h, h1, h2 => absurd h1 (Nat.not_lt_zero _)
  | d :: ds, [], i, h, h1, h2 => absurd h2 (Nat.not_lt_zero _)
  | d :: ds, e :: es, 0, h, h1, h2 => rfl
  | d :: ds, e :: es, i + 1, h, h1, h2 => zipD_get ds es i (by simpa [zipD] using h) (by simpa using h1) (by simpa using h2)
def XI.zip (a b : XE K) : XI K where
  ti := fun md => iZip K (tCons (a.te md) (tCons (b.te md) tNil))
  ev := fun st => match a.es st, b.es st with
    | some ds, some es => .ok (zipD ds es)
    | _, _ => .no
  ok := fun md st => by
    split
    · rename_i ds es h1 h2
      have o1 := a.oks md st ds h1
      have o2 := b.oks md st es h2
      exact ⟨fun {G σ L0 H} Q s q => o1.run _ s fun G1 H1 a1 vs e1 s1 c1 d1 => o2.run _ s1 fun G2 H2 a2 ws e2 s2 c2 d2 => by
        obtain ⟨L, sl, la⟩ := id s2
        refine ⟨a1, a2, vs, ws, rfl, c1 _ _ _ e2 la, c2 _ _ _ (Same.refl _) la, q G2 H2 _ (e1.trans e2) s2 ⟨fun i G L H e3 l hi => ?_, fun i G L H e3 l hi => ?_⟩⟩
        · have hi2 := hi
          rw [zipD_len] at hi2
          have i1 : i < ds.length := by omega
          have i2 : i < es.length := by omega
          have hq1 := c1 _ _ _ (e2.trans e3) l
          have hq2 := c2 _ _ _ e3 l
          obtain ⟨v, hv, dv⟩ := dpAll_get d1 (List.getElem?_eq_getElem i1)
          obtain ⟨w, hw, dw⟩ := dpAll_get d2 (List.getElem?_eq_getElem i2)
          refine ⟨⟨vs, ws, v, w, hq1, hq2, hv, hw⟩, fun x H' y => ?_⟩
          obtain ⟨T, x1, x2, rfl, hT, rfl, y1, y2⟩ := y
          have ex1 : x1 = v := Option.some.inj ((y1 vs hq1).symm.trans hv)
          have ex2 : x2 = w := Option.some.inj ((y2 ws hq2).symm.trans hw)
          subst ex1
          subst ex2
          have g := same_upd (o := .tup [x1, x2]) (l.freshG hT)
          refine ⟨_, g, fun L l => l.grow hT, ?_⟩
          rw [zipD_get ds es i hi i1 i2]
          exact Dq.tup upd_same (.cons (dp_up ((e2.trans e3).trans g) dv) (.cons (dp_up (e3.trans g) dw) .nil))
        · refine ⟨vs, ws, c1 _ _ _ (e2.trans e3) l, c2 _ _ _ e3 l, ?_⟩
          rw [zipD_len] at hi
          rw [dpAll_len d1, dpAll_len d2]
          omega⟩
    · trivial
theorem strs_flat : ∀ ss : List Str, (ss.map V.str).all flatV = true
  | [] => rfl
  | s :: ss => by
    rw [List.map_cons, List.all_cons, strs_flat ss]
    rfl
theorem inV_strs (s : Str) : ∀ ss : List Str, inV (.str s) (ss.map V.str) = decide (s ∈ ss)
  | [] => rfl
  | t :: ss => by
    have ih := inV_strs s ss
    show (_ || inV (.str s) (ss.map V.str)) = _
    rw [ih]
    have e : eqV (.str t) (.str s) = decide (t = s) := by first | rfl | simp [eqV]
    by_cases h : s = t
    · subst h; simp [e]
    · have h2 : t ≠ s := fun z => h z.symm
      simp [h, h2, e]
/-- x not in a tuple of texts that the module keeps -/
def XE.inK (neg : Bool) (a : XE K) (p : Addr) (ss : List Str) (h : ∀ H : Hp, SqT K H p (ss.map V.str)) : XE K := .of (fun md => tOp (rIn K neg) (a.te md) (tC (.ref p)))
  (fun st => (a.ev st).bind fun x => match x with
    | .d (.str s) => .ok (.d (.bool (if neg then !decide (s ∈ ss) else decide (s ∈ ss))))
    | _ => .no)
  fun md st => (a.ok md st).bind (fun C n W h => fun Q s q => h _ s q) fun x hx => by
    split
    · rename_i s
      exact Ev.pure fun {G σ L0 H} Q st' q => hx.atp st' fun G1 H1 v e1 s1 r => by
        cases r
        refine ⟨p, _, rfl, .inr (h H1), rfl, strs_flat ss, ?_⟩
        rw [inV_strs]
        exact q _ _ _ e1 s1 (by cases neg <;> exact Dq.bl _)
    · trivial
def isSeq : PyData → Bool
  | .list _ => true
  | .tuple _ => true
  | _ => false
def reprOk (x : PyData) : Bool := isSeq x && (x.showable && (!x.hasDict && (decide (x.depth ≤ 60) && decide (x.shown.length ≤ sizeLine))))
def Bi.repr : Bi K where
  r := cRepr
  f := fun as => match as with
    | [.v (.d x)] => if reprOk x = true then some (.d (.str x.shown)) else none
    | _ => none
  ok := fun as z h => by
    split at h
    · rename_i x
      split at h
      · rename_i hc
        cases h
        unfold reprOk at hc
        simp only [Bool.and_eq_true, decide_eq_true_eq, Bool.not_eq_true'] at hc
        obtain ⟨h1, h2, h3, h4, h5⟩ := hc
        exact fun G H L vs Q l r q => by
          cases r with
          | cons hd t =>
            cases t
            have hd : Dq G _ x := hd
            cases x with
            | list ds =>
              cases hd with
              | lst a b => exact ⟨_, .list ds, rfl, .lst (l.same _ _ a) (dpAll_up l.same b), h2, h3, h4, h5, q _ (Dq.str _)⟩
            | tuple ds =>
              cases hd with
              | tup a b => exact ⟨_, .tuple ds, rfl, .tup (l.same _ _ a) (dpAll_up l.same b), h2, h3, h4, h5, q _ (Dq.str _)⟩
            | _ => cases h1
      · cases h
    · cases h
end
end R

set_option Elab.async false
set_option linter.all false
set_option maxRecDepth 100000
set_option maxHeartbeats 2000000
namespace R
open PySem PySem.Spec PyProof.Rows L2 Z
theorem slots_out {G : Hp} {L0 : List Cell} {O : Op} : ∀ {σ : L2.St} {ρ : List Sl} {L : List Cell} {i : Nat}, Slots G L0 σ ρ L → ρ[i]? = some (.o O) → ∃ a cs M, σ[i]? = some (some (.ref a)) ∧ O.p G a cs ∧ L.Perm (cs ++ M) ∧ Slots G L0 σ (ρ.set i .x) M
  | _, _, _, _, .nil, h => by simp at h
  | _, _, _, 0, .x _, h => by simp at h
  | _, _, _, 0, .p _ _, h => by simp at h
  | _, _, _, 0, .b _ _, h => by simp at h
  | _, _, _, 0, .o (a := a) (cs := cs) (L := M) q s, h => by
    simp at h; subst h
    exact ⟨a, cs, M, rfl, q, .refl _, .x s⟩
  | _, _, _, i + 1, .x s, h => by
    obtain ⟨a, cs, M, h1, h2, h3, h4⟩ := slots_out (i := i) s (by simpa using h)
    exact ⟨a, cs, M, by simpa using h1, h2, h3, .x h4⟩
  | _, _, _, i + 1, .p q s, h => by
    obtain ⟨a, cs, M, h1, h2, h3, h4⟩ := slots_out (i := i) s (by simpa using h)
    exact ⟨a, cs, M, by simpa using h1, h2, h3, .p q h4⟩
  | _, _, _, i + 1, .b q s, h => by
    obtain ⟨a, cs, M, h1, h2, h3, h4⟩ := slots_out (i := i) s (by simpa using h)
    exact ⟨a, cs, M, by simpa using h1, h2, h3, .b q h4⟩
  | _, _, _, i + 1, .o (cs := ds) q s, h => by
    obtain ⟨a, cs, M, h1, h2, h3, h4⟩ := slots_out (i := i) s (by simpa using h)
    exact ⟨a, cs, ds ++ M, by simpa using h1, h2, (h3.append_left ds).trans (perm_swap _ _ _), .o q h4⟩
theorem slots_in {G : Hp} {L0 : List Cell} {O : Op} {a : Addr} {cs : List Cell} (q : O.p G a cs) : ∀ {σ : L2.St} {ρ : List Sl} {M : List Cell} {i : Nat}, Slots G L0 σ (ρ.set i .x) M → σ[i]? = some (some (.ref a)) → ρ[i]? = some (.o O) → ∃ L, Slots G L0 σ ρ L ∧ L.Perm (cs ++ M)
  | σ, [], M, i, h, h1, h2 => by simp at h2
  | σ, r :: ρ, M, 0, h, h1, h2 => by
    have h2 : r = .o O := by simpa using h2
    subst h2
    have h : Slots G L0 σ (.x :: ρ) M := h
    cases h with
    | @x v σ' _ _ s' =>
      have h1 : v = some (.ref a) := by simpa using h1
      subst h1
      exact ⟨_, .o q s', .refl _⟩
  | σ, r :: ρ, M, i + 1, h, h1, h2 => by
    have h : Slots G L0 σ (r :: ρ.set i .x) M := h
    cases h with
    | x s' =>
      obtain ⟨L, s2, p⟩ := slots_in q s' (by simpa using h1) (by simpa using h2)
      exact ⟨L, .x s2, p⟩
    | p q' s' =>
      obtain ⟨L, s2, p⟩ := slots_in q s' (by simpa using h1) (by simpa using h2)
      exact ⟨L, .p q' s2, p⟩
    | b q' s' =>
      obtain ⟨L, s2, p⟩ := slots_in q s' (by simpa using h1) (by simpa using h2)
      exact ⟨L, .b q' s2, p⟩
    | @o _ _ ds _ _ _ q' s' =>
      obtain ⟨L, s2, p⟩ := slots_in q s' (by simpa using h1) (by simpa using h2)
      exact ⟨ds ++ L, .o q' s2, (p.append_left ds).trans (perm_swap _ _ _)⟩
theorem slots_b_of {G : Hp} {L0 : List Cell} {B : Bw} {v : V} (q : B.p G L0 v) : ∀ {σ : L2.St} {ρ : List Sl} {M : List Cell} {i : Nat}, Slots G L0 σ (ρ.set i .x) M → σ[i]? = some (some v) → Slots G L0 σ (ρ.set i (.b B)) M
  | σ, [], M, i, h, h1 => h
  | σ, r :: ρ, M, 0, h, h1 => by
    have h : Slots G L0 σ (.x :: ρ) M := h
    cases h with
    | @x w σ' _ _ s' =>
      have h1 : w = some v := by simpa using h1
      subst h1
      exact .b q s'
  | σ, r :: ρ, M, i + 1, h, h1 => by
    have h : Slots G L0 σ (r :: ρ.set i .x) M := h
    show Slots G L0 σ (r :: ρ.set i (.b B)) M
    cases h with
    | x s' => exact .x (slots_b_of q s' (by simpa using h1))
    | p q' s' => exact .p q' (slots_b_of q s' (by simpa using h1))
    | b q' s' => exact .b q' (slots_b_of q s' (by simpa using h1))
    | o q' s' => exact .o q' (slots_b_of q s' (by simpa using h1))
theorem slots_x_of {G : Hp} {L0 : List Cell} {B : Bw} : ∀ {σ : L2.St} {ρ : List Sl} {M : List Cell} {i : Nat}, Slots G L0 σ (ρ.set i (.b B)) M → Slots G L0 σ (ρ.set i .x) M
  | σ, [], M, i, h => h
  | σ, r :: ρ, M, 0, h => by
    have h : Slots G L0 σ (.b B :: ρ) M := h
    cases h with
    | b q s' => exact .x s'
  | σ, r :: ρ, M, i + 1, h => by
    have h : Slots G L0 σ (r :: ρ.set i (.b B)) M := h
    show Slots G L0 σ (r :: ρ.set i .x) M
    cases h with
    | x s' => exact .x (slots_x_of s')
    | p q' s' => exact .p q' (slots_x_of s')
    | b q' s' => exact .b q' (slots_x_of s')
    | o q' s' => exact .o q' (slots_x_of s')
/-- an owned list, lent for the time of an expression -/
theorem stt_lend {G H : Hp} {ρ : List Sl} {σ : L2.St} {L0 : List Cell} {ds : List PyData} {i : Nat} (s : Stt G ρ σ L0 H) (hi : ρ[i]? = some (.o (oL ds))) :
    ∃ cs, Stt G (ρ.set i (.b (bL ds))) σ (cs ++ L0) H ∧ ∀ G' H', Same G G' → Stt G' (ρ.set i (.b (bL ds))) σ (cs ++ L0) H' → Stt G' ρ σ L0 H' := by
  obtain ⟨L, sl, la⟩ := s
  obtain ⟨a, cs, M, h1, h2, h3, h4⟩ := slots_out sl hi
  obtain ⟨vs, hcs, hd⟩ := id h2
  have la2 : Lay G (M ++ (cs ++ L0)) H := by
    refine la.perm ?_
    refine (h3.append_right L0).trans ?_
    rw [List.append_assoc]
    exact perm_swap _ _ _
  refine ⟨cs, ⟨M, slots_b_of (v := .ref a) ?_ (h4.mono fun c hc => List.mem_append_right _ hc) h1, la2⟩, fun G' H' e s' => ?_⟩
  · exact ⟨a, vs, rfl, .inr (List.mem_append_left _ (by rw [hcs]; exact List.mem_cons_self ..)), hd⟩
  · obtain ⟨L', sl', la'⟩ := s'
    have sx := slots_x_of sl'
    have sy := Slots.mix e h4 sx
    obtain ⟨L2, s2, p2⟩ := slots_in ((oL ds).up e h2) sy h1 hi
    refine ⟨L2, s2, la'.perm ?_⟩
    refine (perm_swap _ _ _).trans ?_
    rw [← List.append_assoc]
    exact (p2.symm).append_right L0
section
variable {K : PySem.W.Frag}
theorem EvN.lend {te : TE} {ρ : List Sl} {ds r : List PyData} {i : Nat} (hi : ρ[i]? = some (.o (oL ds))) (h : EvN te (ρ.set i (.b (bL ds))) r) : EvN te ρ r := ⟨fun {G σ L0 H} Q s q => by
  obtain ⟨cs, s1, back⟩ := stt_lend s hi
  exact h.run Q s1 fun G' H' p vs e s2 hp d => q G' H' p vs e (back G' H' e s2) hp d⟩
def XN.lend (i : Nat) (n : XN K) : XN K where
  te := n.te
  ev := fun st => match st[i]? with
    | some (.ol ds) => (match n.ev (st.set i (.bl ds)) with
      | .ok r => .ok r
      | _ => .no)
    | _ => n.ev st
  ok := fun md st => by
    cases hi : st[i]? with
    | none => exact n.ok md st
    | some s =>
      cases s with
      | ol ds =>
        have := n.ok md (st.set i (.bl ds))
        show Cm md _ _ _ (match n.ev (st.set i (.bl ds)) with
          | .ok r => .ok r
          | _ => .no)
        cases he : n.ev (st.set i (.bl ds)) with
        | ok r =>
          rw [he, sls_set] at this
          exact EvN.lend (sls_get (K := K) hi) this
        | ex _ _ => trivial
        | no => trivial
      | _ => exact n.ok md st
theorem slots_px {G : Hp} {L0 : List Cell} {R : Rp} : ∀ {σ : L2.St} {ρ : List Sl} {M : List Cell} {i : Nat}, Slots G L0 σ ρ M → ρ[i]? = some (.p R) → Slots G L0 σ (ρ.set i .x) M
  | σ, [], M, i, h, h1 => h
  | σ, r :: ρ, M, 0, h, h1 => by
    have h1 : r = .p R := by simpa using h1
    subst h1
    cases h with
    | p q s' => exact .x s'
  | σ, r :: ρ, M, i + 1, h, h1 => by
    show Slots G L0 σ (r :: ρ.set i .x) M
    cases h with
    | x s' => exact .x (slots_px s' (by simpa using h1))
    | p q' s' => exact .p q' (slots_px s' (by simpa using h1))
    | b q' s' => exact .b q' (slots_px s' (by simpa using h1))
    | o q' s' => exact .o q' (slots_px s' (by simpa using h1))
theorem slots_xp {G : Hp} {L0 : List Cell} {R : Rp} {v : V} (q : R.p G v) : ∀ {σ : L2.St} {ρ : List Sl} {M : List Cell} {i : Nat}, Slots G L0 σ (ρ.set i .x) M → σ[i]? = some (some v) → ρ[i]? = some (.p R) → Slots G L0 σ ρ M
  | σ, [], M, i, h, h1, h2 => by simp at h2
  | σ, r :: ρ, M, 0, h, h1, h2 => by
    have h2 : r = .p R := by simpa using h2
    subst h2
    have h : Slots G L0 σ (.x :: ρ) M := h
    cases h with
    | @x w σ' _ _ s' =>
      have h1 : w = some v := by simpa using h1
      subst h1
      exact .p q s'
  | σ, r :: ρ, M, i + 1, h, h1, h2 => by
    have h : Slots G L0 σ (r :: ρ.set i .x) M := h
    cases h with
    | x s' => exact .x (slots_xp q s' (by simpa using h1) (by simpa using h2))
    | p q' s' => exact .p q' (slots_xp q s' (by simpa using h1) (by simpa using h2))
    | b q' s' => exact .b q' (slots_xp q s' (by simpa using h1) (by simpa using h2))
    | o q' s' => exact .o q' (slots_xp q s' (by simpa using h1) (by simpa using h2))
theorem EvN.blank {te : TE} {ρ : List Sl} {r : List PyData} {R : Rp} {i : Nat} (hi : ρ[i]? = some (.p R)) (h : EvN te (ρ.set i .x) r) : EvN te ρ r := ⟨fun {G σ L0 H} Q s q => by
  obtain ⟨v, hv, rv⟩ := s.get_p hi
  obtain ⟨L, sl, la⟩ := s
  exact h.run Q ⟨L, slots_px sl hi, la⟩ fun G' H' p vs e ⟨L', sl', la'⟩ hp d => q G' H' p vs e ⟨L', slots_xp (R.up e rv) sl' hv hi, la'⟩ hp d⟩
/-- the variable of a comprehension, when its name is in use -/
def XN.blank (i : Nat) (n : XN K) : XN K where
  te := n.te
  ev := fun st => match st[i]? with
    | some (.v _) => (match n.ev (st.set i .x) with
      | .ok r => .ok r
      | _ => .no)
    | _ => n.ev st
  ok := fun md st => by
    cases hi : st[i]? with
    | none => exact n.ok md st
    | some s =>
      cases s with
      | v a =>
        have := n.ok md (st.set i .x)
        show Cm md _ _ _ (match n.ev (st.set i .x) with
          | .ok r => .ok r
          | _ => .no)
        cases he : n.ev (st.set i .x) with
        | ok r =>
          rw [he, sls_set] at this
          exact EvN.blank (sls_get (K := K) hi) this
        | ex _ _ => trivial
        | no => trivial
      | _ => exact n.ok md st
/-- a if t else b, as a test -/
def tIfT (t u v : TT) : TT := fun σ H Q => t σ H fun c H1 => if c = true then u σ H1 Q else v σ H1 Q
theorem pt_ifExpT {X : Cx} {c a b : Expr} {tc ta tb : TT} {pos : Pos} (hc : PT X c tc) (ha : PT X a ta) (hb : PT X b tb) : PT X (.IfExp c a b pos) (tIfT tc ta tb) := by
  refine ⟨fun pins s σ H Q I h => ?_⟩
  refine isTrue_IfExp (thn (hc.run pins s σ H _ I h) fun d s1 ⟨H1, I1, q1⟩ => ?_)
  cases d with
  | true => exact ha.run pins s1 σ H1 Q I1 q1
  | false => exact hb.run pins s1 σ H1 Q I1 q1
def XT.ife (t a b : XT K) : XT K where
  tt := fun md => tIfT (t.tt md) (a.tt md) (b.tt md)
  ev := fun st => (t.ev st).bind fun x => match x with
    | true => a.ev st
    | false => b.ev st
  ok := fun md st => (t.ok md st).bind (fun C n W h => fun Q s q => h _ s q) fun x hx => by
    cases x with
    | true =>
      have ha := a.ok md st
      show Cm md _ _ _ (a.ev st)
      cases he : a.ev st with
      | ok y => rw [he] at ha; exact ⟨fun Q s q => hx.run _ s fun G1 H1 e1 s1 => by rw [if_pos rfl]; exact ha.run _ s1 fun G2 H2 e2 s2 => q G2 H2 (e1.trans e2) s2⟩
      | ex C n =>
        rw [he] at ha
        exact fun l W w => fun {G σ L0 H} Q s q => hx.run _ s fun G1 H1 e1 s1 => by
          rw [if_pos rfl]
          exact ha l W w _ s1 fun G2 H2 d e2 s2 hd => q G2 H2 d (e1.trans e2) s2 hd
      | no => trivial
    | false =>
      have hb := b.ok md st
      show Cm md _ _ _ (b.ev st)
      cases he : b.ev st with
      | ok y => rw [he] at hb; exact ⟨fun Q s q => hx.run _ s fun G1 H1 e1 s1 => by rw [if_neg (by decide)]; exact hb.run _ s1 fun G2 H2 e2 s2 => q G2 H2 (e1.trans e2) s2⟩
      | ex C n =>
        rw [he] at hb
        exact fun l W w => fun {G σ L0 H} Q s q => hx.run _ s fun G1 H1 e1 s1 => by
          rw [if_neg (by decide)]
          exact hb l W w _ s1 fun G2 H2 d e2 s2 hd => q G2 H2 d (e1.trans e2) s2 hd
      | no => trivial
theorem Ex.par {W : WX} {ta : TA} {ρ : List Sl} {R1 R2 : Rp} {i j : Nat} (h : EvA ta ρ [pu R1, pu R2]) : Ex W (tPar i j ta) ρ (.nx ((ρ.set i (.p R1)).set j (.p R2))) := ⟨fun {G σ L0 H} D s q => h.at s fun G1 H1 vs L e1 sl la r => by
  cases r with
  | @cons v vs _ _ h1 t =>
    cases t with
    | @cons w vs _ _ h2 t =>
      cases t
      have s1 : Stt G1 ρ σ L0 H1 := ⟨L, sl, la⟩
      obtain ⟨G2, e2, s2⟩ := s1.set_p h1 i
      obtain ⟨G3, e3, s3⟩ := s2.set_p (R2.up e2 h2) j
      exact ⟨v, w, rfl, q G3 _ H1 ((e1.trans e2).trans e3) s3⟩⟩
def XS.par (i j : Nat) (as : XA K) : XS K where
  ts := fun md => tPar i j (as.ta md)
  ev := fun st => (as.ev st).oc st fun xs => match xs with
    | [.v a, .v b] => .nx ((st.set i (.v a)).set j (.v b))
    | _ => .no
  ok := fun md W st w => oc_ok w (as.ok md st) (fun C n h => ⟨fun D s q => h _ s fun G' H' d e s' hd => q G' _ H' d e s' hd⟩) fun xs h => by
    split
    · rename_i a b
      show Ex _ _ _ (.nx (sls K ((st.set i (.v a)).set j (.v b))))
      rw [sls_set, sls_set]
      exact Ex.par h
    · trivial
/-- the law's own call -/
def lawFn : Fn := ⟨1, false, fun as => match as with
  | [.v (.s xs)] => if xs.length ≤ 63 then .ok (.d (.bool true)) else .no
  | _ => .no⟩
theorem law_run {vs : List V} {H : Hp} {Q : VK} {E : XK} (s : XS K) (N : List Str) (h : SpA (α := List Int) (fun xs => xs.length ≤ 63) (fun xs => [pu (scR K xs)]) (fun _ => .ok (dB true)) vs H Q E)
    (hs : ∀ xs : List Int, xs.length ≤ 63 → runX s false (N.length - 1) [.v (.s xs)] = .ok (.d (.bool true))) : s.ts (.out E) { nx := fun _ H' => Q .non H', rt := Q } (L2.start N vs) H := by
  refine Fn.run (F := lawFn) s N ?_ ?_
  · obtain ⟨xs, G, L, hp, la, al, r⟩ := h
    have hf : lawFn.f [.v (.s xs)] = .ok (.d (.bool true)) := if_pos hp
    refine ⟨⟨[.v (.s xs)], rfl⟩, G, L, by show lawFn.f [.v (.s xs)] ≠ _; rw [hf]; exact fun z => (nomatch z), la, al, ?_⟩
    show ResP Q E G L (resOf K false (lawFn.f [.v (.s xs)]))
    rw [hf]
    exact r
  · intro as hm hn
    show runX s false (N.length - 1) as = _
    have hd : ∀ as : List Av, lawFn.f as ≠ .no → ∃ xs : List Int, as = [.v (.s xs)] ∧ xs.length ≤ 63 := by
      intro as hn
      unfold lawFn at hn
      simp only at hn
      split at hn
      · split at hn
        · exact ⟨_, rfl, by assumption⟩
        · exact absurd rfl hn
      · exact absurd rfl hn
    obtain ⟨xs, rfl, hl⟩ := hd as hn
    rw [hs xs hl]
    exact (if_pos hl).symm
end
end R

set_option Elab.async false
set_option linter.all false
set_option maxRecDepth 100000
set_option maxHeartbeats 2000000
/-! M1: what a text of layer R comes to, told by typed values: a mirror m : Rs α. -/
namespace R
open PySem PySem.Spec PyProof.Rows L2 Z
/-- r does what m says; nothing is said where m gives up -/
def Si {α β : Type} (r : Rs β) (m : Rs α) (e : α → β) : Prop := match m with
  | .ok a => r = .ok (e a)
  | .ex C n => r = .ex C n
  | .no => True
/-- without errors -/
def qu {α : Type} (m : Rs α) : Rs α := match m with
  | .ok a => .ok a
  | _ => .no
def grd {α : Type} (c : Prop) [Decidable c] (m : Rs α) : Rs α := if c then m else .no
/-! how typed values stand as data -/
structure En (α : Type) where
  e : α → PyData
def En.v {α : Type} (E : En α) (a : α) : Vl := .d (E.e a)
def eI : En Int := ⟨.int⟩
def eB : En Bool := ⟨.bool⟩
def eS : En Str := ⟨.str⟩
def eU : En Unit := ⟨fun _ => .none⟩
def eD : En PyData := ⟨fun d => d⟩
def eL {α : Type} (E : En α) : En (List α) := ⟨fun xs => .list (xs.map E.e)⟩
def eO {α : Type} (E : En α) : En (Option α) := ⟨fun o => match o with
  | none => .none
  | some a => E.e a⟩
def eT0 : En Unit := ⟨fun _ => .tuple []⟩
def eT1 {α : Type} (A : En α) : En α := ⟨fun a => .tuple [A.e a]⟩
def eT2 {α β : Type} (A : En α) (B : En β) : En (α × β) := ⟨fun p => .tuple [A.e p.1, B.e p.2]⟩
def eT3 {α β γ : Type} (A : En α) (B : En β) (C : En γ) : En (α × β × γ) := ⟨fun p => .tuple [A.e p.1, B.e p.2.1, C.e p.2.2]⟩
def eT4 {α β γ δ : Type} (A : En α) (B : En β) (C : En γ) (D : En δ) : En (α × β × γ × δ) := ⟨fun p => .tuple [A.e p.1, B.e p.2.1, C.e p.2.2.1, D.e p.2.2.2]⟩
def eT5 {α β γ δ ε : Type} (A : En α) (B : En β) (C : En γ) (D : En δ) (E : En ε) : En (α × β × γ × δ × ε) := ⟨fun p => .tuple [A.e p.1, B.e p.2.1, C.e p.2.2.1, D.e p.2.2.2.1, E.e p.2.2.2.2]⟩
def eT6 {α β γ δ ε ζ : Type} (A : En α) (B : En β) (C : En γ) (D : En δ) (E : En ε) (F : En ζ) : En (α × β × γ × δ × ε × ζ) := ⟨fun p => .tuple [A.e p.1, B.e p.2.1, C.e p.2.2.1, D.e p.2.2.2.1, E.e p.2.2.2.2.1, F.e p.2.2.2.2.2]⟩
/-- never None -/
class NoNone {α : Type} (E : En α) : Prop where
  nn : ∀ a, isNone (E.e a) = false
instance : NoNone eI := ⟨fun _ => rfl⟩
instance : NoNone eB := ⟨fun _ => rfl⟩
instance : NoNone eS := ⟨fun _ => rfl⟩
instance {α : Type} {A : En α} : NoNone (eL A) := ⟨fun _ => rfl⟩
instance {α : Type} {A : En α} : NoNone (eT1 A) := ⟨fun _ => rfl⟩
instance : NoNone eT0 := ⟨fun _ => rfl⟩
instance {α β : Type} {A : En α} {B : En β} : NoNone (eT2 A B) := ⟨fun _ => rfl⟩
instance {α β γ : Type} {A : En α} {B : En β} {C : En γ} : NoNone (eT3 A B C) := ⟨fun _ => rfl⟩
instance {α β γ δ : Type} {A : En α} {B : En β} {C : En γ} {D : En δ} : NoNone (eT4 A B C D) := ⟨fun _ => rfl⟩
instance {α β γ δ ε : Type} {A : En α} {B : En β} {C : En γ} {D : En δ} {E : En ε} : NoNone (eT5 A B C D E) := ⟨fun _ => rfl⟩
instance {α β γ δ ε ζ : Type} {A : En α} {B : En β} {C : En γ} {D : En δ} {E : En ε} {F : En ζ} : NoNone (eT6 A B C D E F) := ⟨fun _ => rfl⟩
/-- equal data, equal values -/
class EqV {α : Type} (E : En α) : Prop where
  iff : ∀ a b, PyData.eqv (E.e a) (E.e b) = true ↔ a = b
instance : EqV eI := ⟨fun a b => by show ((a == b) = true) ↔ _; exact beq_iff_eq⟩
instance : EqV eB := ⟨fun a b => by show ((a == b) = true) ↔ _; exact beq_iff_eq⟩
instance : EqV eS := ⟨fun a b => by show ((a == b) = true) ↔ _; exact beq_iff_eq⟩
instance : EqV eU := ⟨fun a b => ⟨fun _ => rfl, fun _ => rfl⟩⟩
instance : EqV eT0 := ⟨fun a b => ⟨fun _ => rfl, fun _ => rfl⟩⟩
theorem eqvAll_map {α : Type} {E : En α} [h : EqV E] : ∀ xs ys : List α, PyData.eqvAll (xs.map E.e) (ys.map E.e) = true ↔ xs = ys
  | [], [] => ⟨fun _ => rfl, fun _ => by rw [List.map_nil, PyData.eqvAll]⟩
  | [], _ :: _ => ⟨fun z => by simp [PyData.eqvAll] at z, fun z => (nomatch z)⟩
  | _ :: _, [] => ⟨fun z => by simp [PyData.eqvAll] at z, fun z => (nomatch z)⟩
  | x :: xs, y :: ys => by
    rw [List.map_cons, List.map_cons, PyData.eqvAll, Bool.and_eq_true, h.iff, eqvAll_map xs ys, List.cons.injEq]
instance {α : Type} {E : En α} [h : EqV E] : EqV (eL E) := ⟨fun a b => by
  show PyData.eqv (.list _) (.list _) = true ↔ _
  rw [PyData.eqv]
  exact eqvAll_map a b⟩
theorem eqv_none_l {d : PyData} (h : isNone d = false) : PyData.eqv .none d = false := by cases d <;> first | (rw [PyData.eqv]; done) | cases h
theorem eqv_none_r {d : PyData} (h : isNone d = false) : PyData.eqv d .none = false := by cases d <;> first | (rw [PyData.eqv]; done) | cases h
instance {α : Type} {E : En α} [h : EqV E] [n : NoNone E] : EqV (eO E) := ⟨fun a b => by
  cases a with
  | none =>
    cases b with
    | none => exact ⟨fun _ => rfl, fun _ => by show PyData.eqv .none .none = true; rw [PyData.eqv]⟩
    | some b =>
      show PyData.eqv .none (E.e b) = true ↔ _
      rw [eqv_none_l (n.nn b)]
      exact ⟨fun z => (nomatch z), fun z => (nomatch z)⟩
  | some a =>
    cases b with
    | none =>
      show PyData.eqv (E.e a) .none = true ↔ _
      rw [eqv_none_r (n.nn a)]
      exact ⟨fun z => (nomatch z), fun z => (nomatch z)⟩
    | some b =>
      show PyData.eqv (E.e a) (E.e b) = true ↔ _
      rw [h.iff, Option.some.injEq]⟩
instance {α : Type} {A : En α} [a : EqV A] : EqV (eT1 A) := ⟨fun x y => by
  show PyData.eqv (.tuple _) (.tuple _) = true ↔ _
  simp [PyData.eqv, PyData.eqvAll, a.iff]⟩
instance {α β : Type} {A : En α} {B : En β} [a : EqV A] [b : EqV B] : EqV (eT2 A B) := ⟨fun x y => by
  show PyData.eqv (.tuple _) (.tuple _) = true ↔ _
  simp [PyData.eqv, PyData.eqvAll, a.iff, b.iff, Prod.ext_iff]⟩
instance {α β γ : Type} {A : En α} {B : En β} {C : En γ} [a : EqV A] [b : EqV B] [c : EqV C] : EqV (eT3 A B C) := ⟨fun x y => by
  show PyData.eqv (.tuple _) (.tuple _) = true ↔ _
  simp [PyData.eqv, PyData.eqvAll, a.iff, b.iff, c.iff, Prod.ext_iff]⟩
instance {α β γ δ : Type} {A : En α} {B : En β} {C : En γ} {D : En δ} [a : EqV A] [b : EqV B] [c : EqV C] [d : EqV D] : EqV (eT4 A B C D) := ⟨fun x y => by
  show PyData.eqv (.tuple _) (.tuple _) = true ↔ _
  simp [PyData.eqv, PyData.eqvAll, a.iff, b.iff, c.iff, d.iff, Prod.ext_iff]⟩
instance {α β γ δ ε : Type} {A : En α} {B : En β} {C : En γ} {D : En δ} {E : En ε} [a : EqV A] [b : EqV B] [c : EqV C] [d : EqV D] [e : EqV E] : EqV (eT5 A B C D E) := ⟨fun x y => by
  show PyData.eqv (.tuple _) (.tuple _) = true ↔ _
  simp [PyData.eqv, PyData.eqvAll, a.iff, b.iff, c.iff, d.iff, e.iff, Prod.ext_iff]⟩
instance {α β γ δ ε ζ : Type} {A : En α} {B : En β} {C : En γ} {D : En δ} {E : En ε} {F : En ζ} [a : EqV A] [b : EqV B] [c : EqV C] [d : EqV D] [e : EqV E] [f : EqV F] : EqV (eT6 A B C D E F) := ⟨fun x y => by
  show PyData.eqv (.tuple _) (.tuple _) = true ↔ _
  simp [PyData.eqv, PyData.eqvAll, a.iff, b.iff, c.iff, d.iff, e.iff, f.iff, Prod.ext_iff]⟩
theorem EqV.dec {α : Type} {E : En α} [h : EqV E] [DecidableEq α] (a b : α) : PyData.eqv (E.e a) (E.e b) = decide (a = b) := by
  by_cases z : a = b
  · rw [decide_eq_true z]; exact (h.iff a b).mpr z
  · rw [decide_eq_false z]
    cases hh : PyData.eqv (E.e a) (E.e b) with
    | false => rfl
    | true => exact absurd ((h.iff a b).mp hh) z
/-- flat enough to be compared -/
class ShP {α : Type} (E : En α) (k : outParam Nat) : Prop where
  sh : ∀ a, Sh k (E.e a)
instance : ShP eI 0 := ⟨fun _ => sh_int⟩
instance : ShP eB 0 := ⟨fun _ => sh_bool⟩
instance : ShP eU 0 := ⟨fun _ => sh_none⟩
instance : ShP eT0 1 := ⟨fun _ => sh_tup sh_nil⟩
theorem _root_.Z.Sh.up {k l : Nat} {d : PyData} (h : Sh k d) (e : k ≤ l) : Sh l d := ⟨h.lay, Nat.le_trans h.deep e⟩
instance {α : Type} {E : En α} {k : Nat} [h : ShP E k] : ShP (eL E) (k + 1) := ⟨fun xs => sh_list (sh_map fun x _ => h.sh x)⟩
instance {α : Type} {E : En α} {k : Nat} [h : ShP E k] : ShP (eO E) k := ⟨fun o => by
  cases o with
  | none => exact sh_none
  | some a => exact h.sh a⟩
instance {α : Type} {A : En α} {k : Nat} [a : ShP A k] : ShP (eT1 A) (k + 1) := ⟨fun p => sh_tup (sh_cons (a.sh _) sh_nil)⟩
instance {α β : Type} {A : En α} {B : En β} {k l : Nat} [a : ShP A k] [b : ShP B l] : ShP (eT2 A B) (k + l + 1) := ⟨fun p => sh_tup (sh_cons ((a.sh _).up (by omega)) (sh_cons ((b.sh _).up (by omega)) sh_nil))⟩
instance {α β γ : Type} {A : En α} {B : En β} {C : En γ} {k l m : Nat} [a : ShP A k] [b : ShP B l] [c : ShP C m] : ShP (eT3 A B C) (k + l + m + 1) := ⟨fun p => sh_tup (sh_cons ((a.sh _).up (by omega)) (sh_cons ((b.sh _).up (by omega)) (sh_cons ((c.sh _).up (by omega)) sh_nil)))⟩
instance {α β γ δ : Type} {A : En α} {B : En β} {C : En γ} {D : En δ} {k l m n : Nat} [a : ShP A k] [b : ShP B l] [c : ShP C m] [d : ShP D n] : ShP (eT4 A B C D) (k + l + m + n + 1) := ⟨fun p => sh_tup (sh_cons ((a.sh _).up (by omega)) (sh_cons ((b.sh _).up (by omega)) (sh_cons ((c.sh _).up (by omega)) (sh_cons ((d.sh _).up (by omega)) sh_nil))))⟩
instance {α β γ δ ε : Type} {A : En α} {B : En β} {C : En γ} {D : En δ} {E : En ε} {k l m n o : Nat} [a : ShP A k] [b : ShP B l] [c : ShP C m] [d : ShP D n] [e : ShP E o] : ShP (eT5 A B C D E) (k + l + m + n + o + 1) := ⟨fun p => sh_tup (sh_cons ((a.sh _).up (by omega)) (sh_cons ((b.sh _).up (by omega)) (sh_cons ((c.sh _).up (by omega)) (sh_cons ((d.sh _).up (by omega)) (sh_cons ((e.sh _).up (by omega)) sh_nil)))))⟩
instance {α β γ δ ε ζ : Type} {A : En α} {B : En β} {C : En γ} {D : En δ} {E : En ε} {F : En ζ} {k l m n o p : Nat} [a : ShP A k] [b : ShP B l] [c : ShP C m] [d : ShP D n] [e : ShP E o] [f : ShP F p] : ShP (eT6 A B C D E F) (k + l + m + n + o + p + 1) := ⟨fun p => sh_tup (sh_cons ((a.sh _).up (by omega)) (sh_cons ((b.sh _).up (by omega)) (sh_cons ((c.sh _).up (by omega)) (sh_cons ((d.sh _).up (by omega)) (sh_cons ((e.sh _).up (by omega)) (sh_cons ((f.sh _).up (by omega)) sh_nil))))))⟩
section
variable {α β γ δ : Type}
theorem Si.bind {r : Rs β} {m : Rs α} {e : α → β} {f : β → Rs δ} {g : α → Rs γ} {e' : γ → δ} (h : Si r m e) (k : ∀ a, Si (f (e a)) (g a) e') : Si (r.bind f) (m.bind g) e' := by
  cases m with
  | ok a => have h : r = .ok (e a) := h; rw [h]; exact k a
  | ex C n => have h : r = .ex C n := h; rw [h]; exact rfl
  | no => trivial
theorem Si.bindp {r : Rs β} {a : α} {e : α → β} {f : β → Rs δ} {m : Rs γ} {e' : γ → δ} (h : Si r (.ok a) e) (k : Si (f (e a)) m e') : Si (r.bind f) m e' := by
  have h : r = .ok (e a) := h
  rw [h]
  exact k
theorem si_ok {a : α} {e : α → β} : Si (.ok (e a)) (.ok a) e := rfl
theorem si_no {r : Rs β} {e : α → β} : Si r (.no : Rs α) e := trivial
theorem si_grd {r : Rs β} {m : Rs α} {e : α → β} {c : Prop} [Decidable c] (h : c → Si r m e) : Si r (grd c m) e := by
  unfold grd
  by_cases hc : c
  · rw [if_pos hc]; exact h hc
  · rw [if_neg hc]; trivial
theorem si_ite {r : Rs β} {m n : Rs α} {e : α → β} {c : Prop} [Decidable c] (h : c → Si r m e) (h2 : ¬ c → Si r n e) : Si r (if c then m else n) e := by
  by_cases hc : c
  · rw [if_pos hc]; exact h hc
  · rw [if_neg hc]; exact h2 hc
theorem Si.is {r : Rs β} {m : Rs α} {e e' : α → β} (h : Si r m e) (he : ∀ a, e a = e' a) : Si r m e' := by
  have : e = e' := funext he
  rw [← this]; exact h
theorem Si.quiet {r : Rs β} {m : Rs α} {e : α → β} (h : Si r m e) : Si r (qu m) e := by
  cases m with
  | ok a => exact h
  | ex C n => trivial
  | no => trivial
theorem Si.okV {r : Rs β} {m : Rs α} {e : α → β} {a : α} (h : Si r m e) (k : m = .ok a) : R.okV r = some (e a) := by
  subst k
  have h : r = .ok (e a) := h
  rw [h]; rfl
end
section
variable {K : PySem.W.Frag} {α β γ δ : Type} {st : List Sv}
/-- an expression's value -/
def SV (e : α → Vl) (x : XE K) (st : List Sv) (m : Rs α) : Prop := Si (x.ev st) m e
/-- read as a lent list -/
def SL (f : α → List PyData) (x : XE K) (st : List Sv) (m : Rs α) : Prop := Si (x.av true st) m (fun a => Av.l (f a))
/-- walked -/
def SW (f : α → List PyData) (x : XE K) (st : List Sv) (m : Rs α) : Prop := match m with
  | .ok a => x.es st = some (f a)
  | .ex C n => x.es st = none ∧ x.ev st = .ex C n
  | .no => True
def SN (f : α → List PyData) (x : XN K) (st : List Sv) (m : Rs α) : Prop := Si (x.ev st) m f
def ST (t : XT K) (st : List Sv) (m : Rs Bool) : Prop := Si (t.ev st) m id
def SI (f : α → List PyData) (x : XI K) (st : List Sv) (m : Rs α) : Prop := Si (x.ev st) m f
/-- arguments, with what is done with them -/
def SC (as : XA K) (st : List Sv) (f : List Av → Rs β) (m : Rs α) (e : α → β) : Prop := Si ((as.ev st).bind f) m e
/-- one argument, k: lent -/
def SX (k : Bool) (x : XE K) (st : List Sv) (f : Av → Rs β) (m : Rs α) (e : α → β) : Prop := Si ((x.av k st).bind f) m e
theorem bind_assoc (r : Rs α) (f : α → Rs β) (g : β → Rs γ) : (r.bind f).bind g = r.bind fun a => (f a).bind g := by cases r <;> rfl
theorem sx_p {x : XE K} {e1 : γ → Vl} {u : γ} {f : Av → Rs β} {m : Rs α} {e : α → β} (h : SV e1 x st (.ok u)) (k : Si (f (.v (e1 u))) m e) : SX false x st f m e := by
  have h : x.ev st = .ok (e1 u) := h
  show Si (((x.ev st).bind _).bind f) m e
  rw [h]; exact k
theorem sx_i {x : XE K} {e1 : γ → Vl} {n : Rs γ} {f : Av → Rs β} {g : γ → Rs α} {e : α → β} (h : SV e1 x st n) (k : ∀ u, Si (f (.v (e1 u))) (g u) e) : SX false x st f (n.bind g) e := by
  show Si (((x.ev st).bind _).bind f) _ e
  rw [bind_assoc]
  exact Si.bind h k
theorem sl_p {x : XE K} {e1 : γ → List PyData} {u : γ} {f : Av → Rs β} {m : Rs α} {e : α → β} (h : SL e1 x st (.ok u)) (k : Si (f (.l (e1 u))) m e) : SX true x st f m e := by
  have h : x.av true st = .ok (.l (e1 u)) := h
  show Si ((x.av true st).bind f) m e
  rw [h]; exact k
theorem sl_i {x : XE K} {e1 : γ → List PyData} {n : Rs γ} {f : Av → Rs β} {g : γ → Rs α} {e : α → β} (h : SL e1 x st n) (k : ∀ u, Si (f (.l (e1 u))) (g u) e) : SX true x st f (n.bind g) e := Si.bind h k
/-- the script, handed to a builtin that takes lists -/
theorem sc_nil {f : List Av → Rs β} {m : Rs α} {e : α → β} (h : Si (f []) m e) : SC (.nil : XA K) st f m e := h
theorem sc_cons {k : Bool} {x : XE K} {r : XA K} {f : List Av → Rs β} {m : Rs α} {e : α → β} (h : SX k x st (fun a => (r.ev st).bind fun as => f (a :: as)) m e) : SC (.cons k x r) st f m e := by
  show Si (((x.av k st).bind fun a => (r.ev st).bind fun as => .ok (a :: as)).bind f) m e
  rw [bind_assoc]
  have : (fun a => ((r.ev st).bind fun as => Rs.ok (a :: as)).bind f) = fun a => (r.ev st).bind fun as => f (a :: as) := by
    funext a
    rw [bind_assoc]
    rfl
  rw [this]
  exact h
theorem sc_p {x : XE K} {r : XA K} {e1 : γ → Vl} {u : γ} {f : List Av → Rs β} {m : Rs α} {e : α → β} (h : SV e1 x st (.ok u)) (k : SC r st (fun as => f (.v (e1 u) :: as)) m e) : SC (.cons false x r) st f m e := sc_cons (sx_p h k)
theorem sc_i {x : XE K} {r : XA K} {e1 : γ → Vl} {n : Rs γ} {f : List Av → Rs β} {g : γ → Rs α} {e : α → β} (h : SV e1 x st n) (k : ∀ u, SC r st (fun as => f (.v (e1 u) :: as)) (g u) e) : SC (.cons false x r) st f (n.bind g) e := sc_cons (sx_i h k)
theorem sc_lp {x : XE K} {r : XA K} {e1 : γ → List PyData} {u : γ} {f : List Av → Rs β} {m : Rs α} {e : α → β} (h : SL e1 x st (.ok u)) (k : SC r st (fun as => f (.l (e1 u) :: as)) m e) : SC (.cons true x r) st f m e := sc_cons (sl_p h k)
theorem sc_li {x : XE K} {r : XA K} {e1 : γ → List PyData} {n : Rs γ} {f : List Av → Rs β} {g : γ → Rs α} {e : α → β} (h : SL e1 x st n) (k : ∀ u, SC r st (fun as => f (.l (e1 u) :: as)) (g u) e) : SC (.cons true x r) st f (n.bind g) e := sc_cons (sl_i h k)
/-! atoms -/
theorem sv_var {e : α → Vl} {i : Nat} {a : α} (h : st[i]? = some (.v (e a))) : SV e (.var i : XE K) st (.ok a) := by
  show (match st[i]? with
    | some (.v a) => Rs.ok a
    | _ => .no) = _
  rw [h]
theorem sl_var {f : α → List PyData} {i : Nat} {a : α} (h : st[i]? = some (.v (.d (.list (f a)))) ∨ st[i]? = some (.bl (f a)) ∨ st[i]? = some (.ol (f a))) : SL f (.var i : XE K) st (.ok a) := by
  show (match (match st[i]? with
    | some (.v a) => asL a
    | some (.bl ds) => some ds
    | some (.ol ds) => some ds
    | _ => none) with
    | some ds => Rs.ok (Av.l ds)
    | none => match (XE.var i : XE K).ev st with
      | .ex C n => .ex C n
      | _ => .no) = _
  rcases h with h | h | h <;> rw [h] <;> rfl
theorem sl_varv {f : α → List PyData} {i : Nat} {a : α} (h : st[i]? = some (.v (.d (.list (f a))))) : SL f (.var i : XE K) st (.ok a) := sl_var (.inl h)
theorem sl_varb {f : α → List PyData} {i : Nat} {a : α} (h : st[i]? = some (.bl (f a))) : SL f (.var i : XE K) st (.ok a) := sl_var (.inr (.inl h))
theorem sl_varo {f : α → List PyData} {i : Nat} {a : α} (h : st[i]? = some (.ol (f a))) : SL f (.var i : XE K) st (.ok a) := sl_var (.inr (.inr h))
theorem sw_varv {f : α → List PyData} {i : Nat} {a : α} (h : st[i]? = some (.v (.d (.list (f a))))) : SW f (.var i : XE K) st (.ok a) := by
  show (match st[i]? with
    | some (.v a) => asS a
    | some (.bl ds) => some ds
    | _ => none) = _
  rw [h]; rfl
theorem sw_vars {i : Nat} {xs : List Int} (h : st[i]? = some (.v (.s xs))) : SW (List.map PyData.int) (.var i : XE K) st (.ok xs) := by
  show (match st[i]? with
    | some (.v a) => asS a
    | some (.bl ds) => some ds
    | _ => none) = _
  rw [h]; rfl
theorem sw_varb {f : α → List PyData} {i : Nat} {a : α} (h : st[i]? = some (.bl (f a))) : SW f (.var i : XE K) st (.ok a) := by
  show (match st[i]? with
    | some (.v a) => asS a
    | some (.bl ds) => some ds
    | _ => none) = _
  rw [h]
/-- a list that is a value -/
theorem sl_of {f : α → List PyData} {x : XE K} {m : Rs α} (h : SV (fun a => Vl.d (.list (f a))) x st m) (hx : x.el st = (okV (x.ev st)).bind asL) : SL f x st m := by
  show Si (match x.el st with
    | some ds => Rs.ok (Av.l ds)
    | none => match x.ev st with
      | .ex C n => .ex C n
      | _ => .no) m _
  rw [hx]
  cases m with
  | ok a => have h : x.ev st = .ok (.d (.list (f a))) := h; rw [h]; exact rfl
  | ex C n => have h : x.ev st = .ex C n := h; rw [h]; exact rfl
  | no => trivial
theorem sw_of {f : α → List PyData} {x : XE K} {m : Rs α} (h : SV (fun a => Vl.d (.list (f a))) x st m) (hx : x.es st = (okV (x.ev st)).bind asS) : SW f x st m := by
  cases m with
  | ok a => have h : x.ev st = .ok (.d (.list (f a))) := h; show x.es st = _; rw [hx, h]; rfl
  | ex C n => have h : x.ev st = .ex C n := h; exact ⟨by rw [hx, h]; rfl, h⟩
  | no => trivial
theorem sv_int {i : Int} : SV eI.v (.int i : XE K) st (.ok i) := rfl
theorem sv_bool {b : Bool} : SV eB.v (.bool b : XE K) st (.ok b) := rfl
theorem sv_str {s : Str} : SV eS.v (.str s : XE K) st (.ok s) := rfl
theorem sv_non {E : En α} : SV (eO E).v (.non : XE K) st (.ok none) := rfl
theorem sv_nonU : SV eU.v (.non : XE K) st (.ok ()) := rfl
theorem sv_e {f : α → List PyData} {n : XN K} {m : Rs α} (h : SN f n st m) : SV (fun a => Vl.d (.list (f a))) n.e st m := by
  show Si ((n.ev st).bind fun ds => Rs.ok (Vl.d (.list ds))) m _
  cases m with
  | ok a => have h : n.ev st = .ok (f a) := h; rw [h]; exact rfl
  | ex C k => have h : n.ev st = .ex C k := h; rw [h]; exact rfl
  | no => trivial
/-- one that may be None, known not to be -/
def theO (o : Option α) : Rs α := match o with
  | some a => .ok a
  | none => .no
theorem sv_theO {E : En α} {x : XE K} {o : Option α} (h : SV (eO E).v x st (.ok o)) : SV E.v x st (theO o) := by
  cases o with
  | none => trivial
  | some a => exact h
theorem sv_some {E : En α} {x : XE K} {a : α} (h : SV E.v x st (.ok a)) : SV (eO E).v x st (.ok (some a)) := h
theorem sv_someI {E : En α} {x : XE K} {m : Rs α} (h : SV E.v x st m) : SV (eO E).v x st (m.bind fun a => .ok (some a)) := by
  cases m with
  | ok a => exact h
  | ex C n => exact h
  | no => trivial
/-! operators -/
theorem sv_op {o : O2 K} {a b : XE K} {m : Rs α} {e : α → Vl} (h : SX o.ka a st (fun x => (b.av o.kb st).bind fun y => Rs.of (o.f x y)) m e) : SV e (.op o a b) st m := h
theorem sn_op {o : O2N K} {a b : XE K} {m : Rs α} {e : α → List PyData} (h : SX o.ka a st (fun x => (b.av o.kb st).bind fun y => Rs.of (o.f x y)) m e) : SN e (.op o a b) st m := h
theorem so_int0 {g : Int → Int → Int} {x y : Int} : Si (Rs.of ((O2.int0 g : O2 K).f (.v (eI.v x)) (.v (eI.v y)))) (.ok (g x y)) eI.v := rfl
theorem so_bool0 {g : Int → Int → Bool} {x y : Int} : Si (Rs.of ((O2.bool0 g : O2 K).f (.v (eI.v x)) (.v (eI.v y)))) (.ok (g x y)) eB.v := rfl
theorem so_add {x y : Int} : Si (Rs.of ((O2.add : O2 K).f (.v (eI.v x)) (.v (eI.v y)))) (.ok (x + y)) eI.v := rfl
theorem so_sub {x y : Int} : Si (Rs.of ((O2.sub : O2 K).f (.v (eI.v x)) (.v (eI.v y)))) (.ok (x - y)) eI.v := rfl
theorem so_lt {x y : Int} : Si (Rs.of ((O2.lt : O2 K).f (.v (eI.v x)) (.v (eI.v y)))) (.ok (decide (x < y))) eB.v := rfl
theorem so_le {x y : Int} : Si (Rs.of ((O2.le : O2 K).f (.v (eI.v x)) (.v (eI.v y)))) (.ok (decide (x ≤ y))) eB.v := rfl
theorem so_gt {x y : Int} : Si (Rs.of ((O2.gt : O2 K).f (.v (eI.v x)) (.v (eI.v y)))) (.ok (decide (y < x))) eB.v := rfl
theorem so_ge {x y : Int} : Si (Rs.of ((O2.ge : O2 K).f (.v (eI.v x)) (.v (eI.v y)))) (.ok (decide (y ≤ x))) eB.v := rfl
theorem so_band {x y : Int} : Si (Rs.of ((O2.band : O2 K).f (.v (eI.v x)) (.v (eI.v y)))) (.ok (Builtin.bitAnd x y)) eI.v := rfl
theorem so_intC {C : Int → Int → Prop} [∀ i j, Decidable (C i j)] {g : Int → Int → Int} {x y : Int} : Si (Rs.of ((O2.intC C g : O2 K).f (.v (eI.v x)) (.v (eI.v y)))) (grd (C x y) (.ok (g x y))) eI.v := si_grd fun h => by
  show Rs.of (if C x y then _ else _) = _
  rw [if_pos h]; rfl
theorem so_intCp {C : Int → Int → Prop} [∀ i j, Decidable (C i j)] {g : Int → Int → Int} {x y : Int} (h : C x y) : Si (Rs.of ((O2.intC C g : O2 K).f (.v (eI.v x)) (.v (eI.v y)))) (.ok (g x y)) eI.v := by
  show Rs.of (if C x y then _ else _) = _
  rw [if_pos h]; rfl
def mulC (x y : Int) : Rs Int := grd (CMulU x y) (.ok (x * y))
def divC (x y : Int) : Rs Int := grd (CDivW x y) (.ok (x / y))
def divUC (x y : Int) : Rs Int := grd (CDivU x y) (.ok (x.fdiv y))
def modC (x y : Int) : Rs Int := grd (0 < y) (.ok (x % y))
def powC (x y : Int) : Rs Int := grd (CPow x y) (.ok (x ^ y.toNat))
def shlC (x y : Int) : Rs Int := grd (CPow x y) (.ok (x * 2 ^ y.toNat))
def shrC (x y : Int) : Rs Int := grd (0 ≤ y) (.ok (x / 2 ^ y.toNat))
theorem so_mul {x y : Int} : Si (Rs.of ((O2.mul : O2 K).f (.v (eI.v x)) (.v (eI.v y)))) (mulC x y) eI.v := so_intC
theorem so_div {x y : Int} : Si (Rs.of ((O2.div : O2 K).f (.v (eI.v x)) (.v (eI.v y)))) (divC x y) eI.v := so_intC
theorem so_divU {x y : Int} : Si (Rs.of ((O2.divU : O2 K).f (.v (eI.v x)) (.v (eI.v y)))) (divUC x y) eI.v := so_intC
theorem so_mod {x y : Int} : Si (Rs.of ((O2.mod : O2 K).f (.v (eI.v x)) (.v (eI.v y)))) (modC x y) eI.v := so_intC
theorem so_pow {x y : Int} : Si (Rs.of ((O2.pow : O2 K).f (.v (eI.v x)) (.v (eI.v y)))) (powC x y) eI.v := so_intC
theorem so_shl {x y : Int} : Si (Rs.of ((O2.shl : O2 K).f (.v (eI.v x)) (.v (eI.v y)))) (shlC x y) eI.v := so_intC
theorem so_shr {x y : Int} : Si (Rs.of ((O2.shr : O2 K).f (.v (eI.v x)) (.v (eI.v y)))) (shrC x y) eI.v := so_intC
theorem so_mulp {x y : Int} (h : CMulU x y) : Si (Rs.of ((O2.mul : O2 K).f (.v (eI.v x)) (.v (eI.v y)))) (.ok (x * y)) eI.v := so_intCp h
theorem so_divp {x y : Int} (h : CDivW x y) : Si (Rs.of ((O2.div : O2 K).f (.v (eI.v x)) (.v (eI.v y)))) (.ok (x / y)) eI.v := so_intCp h
theorem so_modp {x y : Int} (h : 0 < y) : Si (Rs.of ((O2.mod : O2 K).f (.v (eI.v x)) (.v (eI.v y)))) (.ok (x % y)) eI.v := so_intCp (C := fun _ j => 0 < j) (g := fun i j => i % j) h
theorem so_powp {x y : Int} (h : CPow x y) : Si (Rs.of ((O2.pow : O2 K).f (.v (eI.v x)) (.v (eI.v y)))) (.ok (x ^ y.toNat)) eI.v := so_intCp (C := CPow) (g := fun i j => i ^ j.toNat) h
theorem so_shrp {x y : Int} (h : 0 ≤ y) : Si (Rs.of ((O2.shr : O2 K).f (.v (eI.v x)) (.v (eI.v y)))) (.ok (x / 2 ^ y.toNat)) eI.v := so_intCp (C := fun _ j => 0 ≤ j) (g := fun i j => i / 2 ^ j.toNat) h
theorem mul_litr {x y : Int} (h : y.natAbs < 18446744073709551616) : CMulU x y := .inr (.inl h)
theorem mul_litl {x y : Int} (h : x.natAbs < 18446744073709551616) : CMulU x y := .inl h
theorem div_lit {i j : Int} (h : 0 < j ∧ j.natAbs < 18446744073709551616) : CDivW i j := ⟨h.1, by
  by_cases z : j.natAbs = 0
  · rw [z]; decide
  · exact Nat.lt_trans ((Nat.log2_lt z).mpr (show j.natAbs < 2 ^ 64 by have := h.2; omega)) (by decide)⟩
theorem so_eqI {x y : Int} : Si (Rs.of ((O2.eq : O2 K).f (.v (eI.v x)) (.v (eI.v y)))) (.ok (decide (x = y))) eB.v := rfl
theorem so_neI {x y : Int} : Si (Rs.of ((O2.ne : O2 K).f (.v (eI.v x)) (.v (eI.v y)))) (.ok (!decide (x = y))) eB.v := rfl
theorem so_eqS {x y : Str} : Si (Rs.of ((O2.eq : O2 K).f (.v (eS.v x)) (.v (eS.v y)))) (.ok (decide (x = y))) eB.v := rfl
theorem so_neS {x y : Str} : Si (Rs.of ((O2.ne : O2 K).f (.v (eS.v x)) (.v (eS.v y)))) (.ok (!decide (x = y))) eB.v := rfl
theorem so_eqD {E : En α} [EqV E] {k : Nat} [p : ShP E k] [DecidableEq α] {x y : α} (hk : k ≤ 64 := by decide) : Si (Rs.of ((O2.eqD : O2 K).f (.v (E.v x)) (.v (E.v y)))) (.ok (decide (x = y))) eB.v := by
  show Rs.of (if SeqAt.shaped (E.e x) = true ∧ SeqAt.shaped (E.e y) = true then some (Vl.d (.bool (PyData.eqv (E.e x) (E.e y)))) else none) = _
  rw [if_pos ⟨(p.sh x).shaped hk, (p.sh y).shaped hk⟩, EqV.dec]
  rfl
theorem so_neD {E : En α} [EqV E] {k : Nat} [p : ShP E k] [DecidableEq α] {x y : α} (hk : k ≤ 64 := by decide) : Si (Rs.of ((O2.neD : O2 K).f (.v (E.v x)) (.v (E.v y)))) (.ok (!decide (x = y))) eB.v := by
  show Rs.of (if SeqAt.shaped (E.e x) = true ∧ SeqAt.shaped (E.e y) = true then some (Vl.d (.bool (!PyData.eqv (E.e x) (E.e y)))) else none) = _
  rw [if_pos ⟨(p.sh x).shaped hk, (p.sh y).shaped hk⟩, EqV.dec]
  rfl
def shOk (E : En α) (x y : α) : Prop := SeqAt.shaped (E.e x) = true ∧ SeqAt.shaped (E.e y) = true
instance (E : En α) (x y : α) : Decidable (shOk E x y) := by unfold shOk; exact inferInstance
theorem so_eqG {E : En α} [EqV E] [DecidableEq α] {x y : α} : Si (Rs.of ((O2.eqD : O2 K).f (.v (E.v x)) (.v (E.v y)))) (grd (shOk E x y) (.ok (decide (x = y)))) eB.v := si_grd fun h => by
  show Rs.of (if SeqAt.shaped (E.e x) = true ∧ SeqAt.shaped (E.e y) = true then some (Vl.d (.bool (PyData.eqv (E.e x) (E.e y)))) else none) = _
  rw [if_pos (show SeqAt.shaped (E.e x) = true ∧ SeqAt.shaped (E.e y) = true from h), EqV.dec]
  rfl
theorem so_neG {E : En α} [EqV E] [DecidableEq α] {x y : α} : Si (Rs.of ((O2.neD : O2 K).f (.v (E.v x)) (.v (E.v y)))) (grd (shOk E x y) (.ok (!decide (x = y)))) eB.v := si_grd fun h => by
  show Rs.of (if SeqAt.shaped (E.e x) = true ∧ SeqAt.shaped (E.e y) = true then some (Vl.d (.bool (!PyData.eqv (E.e x) (E.e y)))) else none) = _
  rw [if_pos (show SeqAt.shaped (E.e x) = true ∧ SeqAt.shaped (E.e y) = true from h), EqV.dec]
  rfl
theorem so_neL {E : En α} [EqV E] {k : Nat} [p : ShP E k] [DecidableEq α] {x y : List α} (hk : k + 1 ≤ 64 := by decide) : Si (Rs.of ((O2.neL : O2 K).f (.l (x.map E.e)) (.v ((eL E).v y)))) (.ok (!decide (x = y))) eB.v := by
  have q : ShP (eL E) (k + 1) := inferInstance
  show Rs.of (if SeqAt.shaped ((eL E).e x) = true ∧ SeqAt.shaped ((eL E).e y) = true then some (Vl.d (.bool (!PyData.eqv ((eL E).e x) ((eL E).e y)))) else none) = _
  rw [if_pos ⟨(q.sh x).shaped hk, (q.sh y).shaped hk⟩, EqV.dec]
  rfl
theorem so_isN {E : En α} [n : NoNone E] {x : Option α} : Si (Rs.of ((O2.isN : O2 K).f (.v ((eO E).v x)) (.v ((eU).v ())))) (.ok x.isNone) eB.v := by
  cases x with
  | none => rfl
  | some a =>
    show Rs.of (some (Vl.d (.bool (isNone (E.e a))))) = _
    rw [n.nn a]; rfl
theorem so_notN {E : En α} [n : NoNone E] {x : Option α} : Si (Rs.of ((O2.notN : O2 K).f (.v ((eO E).v x)) (.v ((eU).v ())))) (.ok x.isSome) eB.v := by
  cases x with
  | none => rfl
  | some a =>
    show Rs.of (some (Vl.d (.bool (!isNone (E.e a))))) = _
    rw [n.nn a]; rfl
/-- never None -/
theorem so_isNf {E : En α} [n : NoNone E] {x : α} : Si (Rs.of ((O2.isN : O2 K).f (.v (E.v x)) (.v ((eU).v ())))) (.ok false) eB.v := by
  show Rs.of (some (Vl.d (.bool (isNone (E.e x))))) = _
  rw [n.nn x]; rfl
theorem so_notNf {E : En α} [n : NoNone E] {x : α} : Si (Rs.of ((O2.notN : O2 K).f (.v (E.v x)) (.v ((eU).v ())))) (.ok true) eB.v := by
  show Rs.of (some (Vl.d (.bool (!isNone (E.e x))))) = _
  rw [n.nn x]; rfl
theorem so_isB {x y : Bool} : Si (Rs.of ((O2.isB : O2 K).f (.v (eB.v x)) (.v (eB.v y)))) (.ok (decide (x = y))) eB.v := rfl
theorem so_notB {x y : Bool} : Si (Rs.of ((O2.notB : O2 K).f (.v (eB.v x)) (.v (eB.v y)))) (.ok (!decide (x = y))) eB.v := rfl
/-! places -/
def ixC (xs : List α) (i : Int) : Rs α := Rs.of (atI xs i)
theorem atI_map {xs : List α} {f : α → β} {i : Int} : atI (xs.map f) i = (atI xs i).map f := by
  unfold atI
  rw [List.length_map]
  cases ixN xs.length i with
  | none => rfl
  | some j => simp
theorem so_ixL {E : En α} {xs : List α} {i : Int} : Si (Rs.of ((O2.ixL : O2 K).f (.l (xs.map E.e)) (.v (eI.v i)))) (ixC xs i) E.v := by
  show Si (Rs.of ((atI (xs.map E.e) i).map Vl.d)) _ _
  rw [atI_map]
  unfold ixC
  cases atI xs i with
  | none => trivial
  | some a => exact rfl
/-- a place that is known -/
theorem so_ixT {E : En α} {ds : List PyData} {i : Int} {a : α} (h : atI ds i = some (E.e a)) : Si (Rs.of ((O2.ixT : O2 K).f (.v (.d (.tuple ds))) (.v (eI.v i)))) (.ok a) E.v := by
  show Rs.of ((atI ds i).map Vl.d) = _
  rw [h]; rfl
def ixSC (xs : List Int) (i : Int) : Rs Int := grd (0 ≤ i) (Rs.of (xs[i.toNat]?))
theorem so_ixS {xs : List Int} {i : Int} : Si (Rs.of ((O2.ixS : O2 K).f (.v (.s xs)) (.v (eI.v i)))) (ixSC xs i) eI.v := si_grd fun h => by
  show Si (Rs.of (if 0 ≤ i then (xs[i.toNat]?).map fun n => Vl.d (.int n) else none)) _ _
  rw [if_pos h]
  cases xs[i.toNat]? with
  | none => trivial
  | some a => exact rfl
theorem so_inL {x : Int} {ys : List Int} : Si (Rs.of ((O2.inL : O2 K).f (.v (eI.v x)) (.l (ys.map eI.e)))) (.ok (decide (x ∈ ys))) eB.v := by
  show Rs.of ((intsOf (ys.map .int)).map fun ns => Vl.d (.bool (decide (x ∈ ns)))) = _
  rw [intsOf_map]; rfl
theorem so_notInL {x : Int} {ys : List Int} : Si (Rs.of ((O2.notInL : O2 K).f (.v (eI.v x)) (.l (ys.map eI.e)))) (.ok (!decide (x ∈ ys))) eB.v := by
  show Rs.of ((intsOf (ys.map .int)).map fun ns => Vl.d (.bool (!decide (x ∈ ns)))) = _
  rw [intsOf_map]; rfl
def catC (xs ys : List α) : Rs (List α) := grd (xs.length + ys.length ≤ 1000000) (.ok (xs ++ ys))
theorem so_cat {E : En α} {xs ys : List α} : Si (Rs.of ((O2N.cat : O2N K).f (.l (xs.map E.e)) (.l (ys.map E.e)))) (catC xs ys) (List.map E.e) := si_grd fun h => by
  show Rs.of (if (xs.map E.e).length + (ys.map E.e).length ≤ 1000000 then some (xs.map E.e ++ ys.map E.e) else none) = _
  rw [if_pos (by rw [List.length_map, List.length_map]; exact h), ← List.map_append]
  rfl
def repC (xs : List α) (k : Int) : Rs (List α) := grd (xs.length * k.toNat ≤ 1000000 ∧ k.natAbs < 9223372036854775808) (.ok (List.replicate k.toNat xs).flatten)
theorem so_rep {E : En α} {xs : List α} {k : Int} : Si (Rs.of ((O2N.rep : O2N K).f (.l (xs.map E.e)) (.v (eI.v k)))) (repC xs k) (List.map E.e) := si_grd fun h => by
  show Rs.of (if (xs.map E.e).length * k.toNat ≤ 1000000 ∧ k.natAbs < 9223372036854775808 then some (List.replicate k.toNat (xs.map E.e)).flatten else none) = _
  rw [if_pos (by rw [List.length_map]; exact h)]
  have : (List.replicate k.toNat (xs.map E.e)).flatten = ((List.replicate k.toNat xs).flatten).map E.e := by
    rw [List.map_flatten, List.map_replicate]
  rw [this]
  rfl
theorem sv_neg {a : XE K} {u : Int} (h : SV eI.v a st (.ok u)) : SV eI.v (.neg a) st (.ok (-u)) := by
  have h : a.ev st = .ok (eI.v u) := h
  show (a.ev st).bind _ = _
  rw [h]; rfl
theorem sv_negI {a : XE K} {m : Rs Int} (h : SV eI.v a st m) : SV eI.v (.neg a) st (m.bind fun u => .ok (-u)) := Si.bind h fun u => rfl
/-! truth -/
theorem bv_si {a : XE K} {m : Rs Bool} (h : SV eB.v a st m) : Si (a.bv st) m id := by
  show Si ((a.ev st).bind fun x => Rs.of (bOf x)) m id
  cases m with
  | ok u => have h : a.ev st = .ok (eB.v u) := h; rw [h]; exact rfl
  | ex C n => have h : a.ev st = .ex C n := h; rw [h]; exact rfl
  | no => trivial
theorem sv_and {a b : XE K} {u v : Bool} (h : SV eB.v a st (.ok u)) (h2 : SV eB.v b st (.ok v)) : SV eB.v (.andV a b) st (.ok (u && v)) := by
  have h : a.bv st = .ok u := bv_si h
  have h2 : b.bv st = .ok v := bv_si h2
  show (a.bv st).bind _ = _
  rw [h]
  cases u with
  | true => show (b.bv st).bind _ = _; rw [h2]; rfl
  | false => rfl
theorem sv_andI {a b : XE K} {m n : Rs Bool} (h : SV eB.v a st m) (h2 : SV eB.v b st n) : SV eB.v (.andV a b) st (m.bind fun u => if u = true then n else .ok false) := by
  refine Si.bind (e := id) (bv_si h) fun u => ?_
  cases u with
  | true =>
    rw [if_pos rfl]
    have : n = n.bind fun v => .ok v := by cases n <;> rfl
    rw [this]
    exact Si.bind (e := id) (bv_si h2) fun v => rfl
  | false => rfl
theorem sv_andP {a b : XE K} {u : Bool} {n : Rs Bool} (h : SV eB.v a st (.ok u)) (h2 : SV eB.v b st n) : SV eB.v (.andV a b) st (if u = true then n else .ok false) := sv_andI h h2
theorem sv_or {a b : XE K} {u v : Bool} (h : SV eB.v a st (.ok u)) (h2 : SV eB.v b st (.ok v)) : SV eB.v (.orV a b) st (.ok (u || v)) := by
  have h : a.bv st = .ok u := bv_si h
  have h2 : b.bv st = .ok v := bv_si h2
  show (a.bv st).bind _ = _
  rw [h]
  cases u with
  | true => rfl
  | false => show (b.bv st).bind _ = _; rw [h2]; rfl
theorem sv_orI {a b : XE K} {m n : Rs Bool} (h : SV eB.v a st m) (h2 : SV eB.v b st n) : SV eB.v (.orV a b) st (m.bind fun u => if u = true then .ok true else n) := by
  refine Si.bind (e := id) (bv_si h) fun u => ?_
  cases u with
  | false =>
    rw [if_neg (fun z => nomatch z)]
    have : n = n.bind fun v => .ok v := by cases n <;> rfl
    rw [this]
    exact Si.bind (e := id) (bv_si h2) fun v => rfl
  | true => rfl
theorem sv_orP {a b : XE K} {u : Bool} {n : Rs Bool} (h : SV eB.v a st (.ok u)) (h2 : SV eB.v b st n) : SV eB.v (.orV a b) st (if u = true then .ok true else n) := sv_orI h h2
theorem sv_not {a : XE K} {u : Bool} (h : SV eB.v a st (.ok u)) : SV eB.v (.notV a) st (.ok (!u)) := by
  have h : a.bv st = .ok u := bv_si h
  show (a.bv st).bind _ = _
  rw [h]; rfl
theorem sv_notI {a : XE K} {m : Rs Bool} (h : SV eB.v a st m) : SV eB.v (.notV a) st (m.bind fun u => .ok (!u)) := Si.bind (e := id) (bv_si h) fun u => rfl
theorem st_test {a : XE K} {m : Rs Bool} (h : SV eB.v a st m) : ST (.test a) st m := bv_si h
theorem st_B {a : XE K} {m : Rs Bool} (h : SV eB.v a st m) : ST (.B a) st m := bv_si h
theorem st_yes : ST (.yes : XT K) st (.ok true) := rfl
theorem st_and {a b : XT K} {u v : Bool} (h : ST a st (.ok u)) (h2 : ST b st (.ok v)) : ST (.and a b) st (.ok (u && v)) := by
  have h : a.ev st = .ok u := h
  have h2 : b.ev st = .ok v := h2
  show (a.ev st).bind _ = _
  rw [h]
  cases u with
  | true => exact h2
  | false => rfl
theorem st_andI {a b : XT K} {m n : Rs Bool} (h : ST a st m) (h2 : ST b st n) : ST (.and a b) st (m.bind fun u => if u = true then n else .ok false) := by
  refine Si.bind (e := id) h fun u => ?_
  cases u with
  | true => exact h2
  | false => rfl
theorem st_andP {a b : XT K} {u : Bool} {n : Rs Bool} (h : ST a st (.ok u)) (h2 : ST b st n) : ST (.and a b) st (if u = true then n else .ok false) := st_andI h h2
theorem st_or {a b : XT K} {u v : Bool} (h : ST a st (.ok u)) (h2 : ST b st (.ok v)) : ST (.or a b) st (.ok (u || v)) := by
  have h : a.ev st = .ok u := h
  have h2 : b.ev st = .ok v := h2
  show (a.ev st).bind _ = _
  rw [h]
  cases u with
  | true => rfl
  | false => exact h2
theorem st_orI {a b : XT K} {m n : Rs Bool} (h : ST a st m) (h2 : ST b st n) : ST (.or a b) st (m.bind fun u => if u = true then .ok true else n) := by
  refine Si.bind (e := id) h fun u => ?_
  cases u with
  | true => rfl
  | false => exact h2
theorem st_orP {a b : XT K} {u : Bool} {n : Rs Bool} (h : ST a st (.ok u)) (h2 : ST b st n) : ST (.or a b) st (if u = true then .ok true else n) := st_orI h h2
theorem st_not {a : XT K} {u : Bool} (h : ST a st (.ok u)) : ST (.not a) st (.ok (!u)) := by
  have h : a.ev st = .ok u := h
  show (a.ev st).bind _ = _
  rw [h]; rfl
theorem st_notI {a : XT K} {m : Rs Bool} (h : ST a st m) : ST (.not a) st (m.bind fun u => .ok (!u)) := Si.bind (e := id) h fun u => rfl
theorem st_truthL {f : α → List PyData} {x : XE K} {a : α} {g : α → Bool} (h : SL f x st (.ok a)) (hx : ∀ b, (f b).isEmpty = g b) : ST (.truthL x) st (.ok (!g a)) := by
  have h : x.av true st = .ok (.l (f a)) := h
  have hl : x.el st = some (f a) := by
    have h' : (match x.el st with
      | some ds => Rs.ok (Av.l ds)
      | none => match x.ev st with
        | .ex C n => .ex C n
        | _ => .no) = Rs.ok (Av.l (f a)) := h
    cases he : x.el st with
    | some ds => rw [he] at h'; cases h'; rfl
    | none =>
      rw [he] at h'
      cases hv : x.ev st with
      | ok _ => rw [hv] at h'; cases h'
      | ex _ _ => rw [hv] at h'; cases h'
      | no => rw [hv] at h'; cases h'
  show Rs.of ((x.el st).map fun ds => !ds.isEmpty) = _
  rw [hl, ← hx a]
  rfl
theorem st_truth {E : En α} {x : XE K} {xs : List α} (h : SL (List.map E.e) x st (.ok xs)) : ST (.truthL x) st (.ok (!xs.isEmpty)) := st_truthL (g := List.isEmpty) h fun b => by cases b <;> rfl
theorem sv_ife {t : XT K} {a b : XE K} {c : Bool} {u v : α} {e : α → Vl} (h : ST t st (.ok c)) (h1 : SV e a st (.ok u)) (h2 : SV e b st (.ok v)) : SV e (.ife t a b) st (.ok (if c = true then u else v)) := by
  have h : t.ev st = .ok c := h
  show (t.ev st).bind _ = _
  rw [h]
  cases c with
  | true => exact h1
  | false => exact h2
theorem sv_ifeP {t : XT K} {a b : XE K} {c : Bool} {m n : Rs α} {e : α → Vl} (h : ST t st (.ok c)) (h1 : SV e a st m) (h2 : SV e b st n) : SV e (.ife t a b) st (if c = true then m else n) := by
  have h : t.ev st = .ok c := h
  show Si ((t.ev st).bind _) _ _
  rw [h]
  cases c with
  | true => exact h1
  | false => exact h2
theorem sv_ifeI {t : XT K} {a b : XE K} {k : Rs Bool} {m n : Rs α} {e : α → Vl} (h : ST t st k) (h1 : SV e a st m) (h2 : SV e b st n) : SV e (.ife t a b) st (k.bind fun c => if c = true then m else n) := by
  refine Si.bind (e := id) h fun c => ?_
  cases c with
  | true => exact h1
  | false => exact h2
theorem st_ife {t a b : XT K} {c u v : Bool} (h : ST t st (.ok c)) (h1 : ST a st (.ok u)) (h2 : ST b st (.ok v)) : ST (.ife t a b) st (.ok (if c = true then u else v)) := by
  have h : t.ev st = .ok c := h
  show (t.ev st).bind _ = _
  rw [h]
  cases c with
  | true => exact h1
  | false => exact h2
/-- a < b < c -/
theorem sv_chain {o o' : O2 K} {a b c : XE K} {x y z : Int} {p q : Bool} (hk : o.ka = false ∧ o.kb = false ∧ o'.kb = false) (ha : SV eI.v a st (.ok x)) (hb : SV eI.v b st (.ok y)) (hc : SV eI.v c st (.ok z))
    (h1 : Si (Rs.of (o.f (.v (eI.v x)) (.v (eI.v y)))) (.ok p) eB.v) (h2 : Si (Rs.of (o'.f (.v (eI.v y)) (.v (eI.v z)))) (.ok q) eB.v) : SV eB.v (.chain o o' a b c) st (.ok (p && q)) := by
  have ha : a.ev st = .ok (eI.v x) := ha
  have hb : b.ev st = .ok (eI.v y) := hb
  have hc : c.ev st = .ok (eI.v z) := hc
  have h1 : Rs.of (o.f (.v (eI.v x)) (.v (eI.v y))) = .ok (eB.v p) := h1
  have h2 : Rs.of (o'.f (.v (eI.v y)) (.v (eI.v z))) = .ok (eB.v q) := h2
  have h1' : o.f (.v (eI.v x)) (.v (eI.v y)) = some (eB.v p) := by
    cases hh : o.f (.v (eI.v x)) (.v (eI.v y)) with
    | none => rw [hh] at h1; cases h1
    | some w => rw [hh] at h1; cases h1; rfl
  have h2' : o'.f (.v (eI.v y)) (.v (eI.v z)) = some (eB.v q) := by
    cases hh : o'.f (.v (eI.v y)) (.v (eI.v z)) with
    | none => rw [hh] at h2; cases h2
    | some w => rw [hh] at h2; cases h2; rfl
  have va : a.av false st = .ok (.v (eI.v x)) := by show (a.ev st).bind _ = _; rw [ha]; rfl
  have vb : b.av false st = .ok (.v (eI.v y)) := by show (b.ev st).bind _ = _; rw [hb]; rfl
  have vc : c.av false st = .ok (.v (eI.v z)) := by show (c.ev st).bind _ = _; rw [hc]; rfl
  show (a.av o.ka st).bind _ = _
  rw [hk.1, va]
  show (b.av o.kb st).bind _ = _
  rw [hk.2.1, vb]
  show (match (o.f (.v (eI.v x)) (.v (eI.v y))).bind bOf with
    | some false => Rs.ok (Vl.d (.bool false))
    | some true => match okV (c.av o'.kb st) with
      | some w => Rs.of (((o'.f (.v (eI.v y)) w).bind bOf).map fun k => Vl.d (.bool k))
      | none => .no
    | none => .no) = _
  rw [h1']
  cases p with
  | false => rfl
  | true =>
    show (match okV (c.av o'.kb st) with
      | some w => Rs.of (((o'.f (.v (eI.v y)) w).bind bOf).map fun k => Vl.d (.bool k))
      | none => .no) = _
    rw [hk.2.2, vc]
    show Rs.of (((o'.f (.v (eI.v y)) (.v (eI.v z))).bind bOf).map fun k => Vl.d (.bool k)) = _
    rw [h2']
    rfl
end
end R

set_option Elab.async false
set_option linter.all false
set_option maxRecDepth 100000
set_option maxHeartbeats 2000000
/-! M2: calls, builtins, walks, comprehensions. -/
namespace R
open PySem PySem.Spec PyProof.Rows L2 Z
section
variable {K : PySem.W.Frag} {α β γ δ : Type} {st : List Sv}
theorem qu_ok {a : α} : qu (.ok a) = .ok a := rfl
/-! displays -/
def tupF (xs : List Av) : Rs Vl := (match avD xs with
  | some ds => if ds.length ≤ 1000 then Rs.ok ds else .no
  | none => .no).bind fun ds => .ok (.d (.tuple ds))
def lstF (xs : List Av) : Rs (List PyData) := match avD xs with
  | some ds => if ds.length ≤ 1000 then Rs.ok ds else .no
  | none => .no
theorem sv_tup {as : XA K} {m : Rs α} {e : α → Vl} (h : SC as st tupF m e) : SV e (.tup as) st m := by
  show Si (((as.ev st).bind _).bind _) m e
  rw [bind_assoc]
  exact h
theorem sn_lst {as : XA K} {m : Rs α} {f : α → List PyData} (h : SC as st lstF m f) : SN f (.lst as) st m := h
theorem si_tup {xs : List Av} {ds : List PyData} {a : α} {e : α → Vl} (hd : avD xs = some ds) (he : e a = .d (.tuple ds)) (hl : Nat.ble ds.length 1000 = true := by rfl) : Si (tupF xs) (.ok a) e := by
  unfold tupF
  rw [hd]
  show (if ds.length ≤ 1000 then Rs.ok ds else .no).bind _ = Rs.ok (e a)
  rw [if_pos (Nat.le_of_ble_eq_true hl), he]
  rfl
theorem si_lst {xs : List Av} {ds : List PyData} {a : α} {f : α → List PyData} (hd : avD xs = some ds) (he : f a = ds) (hl : Nat.ble ds.length 1000 = true := by rfl) : Si (lstF xs) (.ok a) f := by
  unfold lstF
  rw [hd]
  show (if ds.length ≤ 1000 then Rs.ok ds else .no) = Rs.ok (f a)
  rw [if_pos (Nat.le_of_ble_eq_true hl), he]
/-! calls -/
theorem sv_call {F : Fn} {ho : F.own = false} {as : XA K} {m : Rs α} {e : α → Vl} (h : SC as st (fun xs => if xs.length = F.m then F.f xs else .no) m e) : SV e (.call F ho as) st m := h
theorem sn_call {F : Fn} {ho : F.own = true} {as : XA K} {m : Rs α} {f : α → List PyData} (h : SC as st (fun xs => if xs.length = F.m then (F.f xs).bind lOf else .no) m f) : SN f (.call F ho as) st m := h
theorem si_fn {F : Fn} {xs : List Av} {m : Rs α} {e : α → Vl} {n : Nat} (hm : F.m = n) (h : Si (F.f xs) m e) (hl : Nat.beq xs.length n = true := by rfl) : Si (if xs.length = F.m then F.f xs else .no) m e := by
  rw [if_pos ((Nat.eq_of_beq_eq_true hl).trans hm.symm)]; exact h
theorem si_lOf {r : Rs Vl} {m : Rs α} {f : α → List PyData} (h : Si r m (fun a => Vl.d (.list (f a)))) : Si (r.bind lOf) m f := by
  cases m with
  | ok a => have h : r = .ok (Vl.d (.list (f a))) := h; rw [h]; exact rfl
  | ex C n => have h : r = .ex C n := h; rw [h]; exact rfl
  | no => trivial
theorem si_fnN {F : Fn} {xs : List Av} {m : Rs α} {f : α → List PyData} {n : Nat} (hm : F.m = n) (h : Si (F.f xs) m (fun a => Vl.d (.list (f a)))) (hl : Nat.beq xs.length n = true := by rfl) : Si (if xs.length = F.m then (F.f xs).bind lOf else .no) m f := by
  rw [if_pos ((Nat.eq_of_beq_eq_true hl).trans hm.symm)]
  exact si_lOf h
theorem sv_meth {C : Addr} {nm : Str} {F : Fn} {ho : F.own = false} {x : XE K} {as : XA K} {o : β} {eo : β → Vl} {fs : List (Str × PyData)} {m : Rs α} {e : α → Vl} (hx : SV eo x st (.ok o)) (hi : instOf C nm (eo o) = .ok fs)
    (h : SC as st (fun xs => if xs.length + 1 = F.m then F.f (.v (.i C fs) :: xs) else .no) m e) : SV e (.meth C nm F ho x as) st m := by
  have hx : x.ev st = .ok (eo o) := hx
  show Si ((x.ev st).bind _) m e
  rw [hx]
  show Si ((instOf C nm (eo o)).bind _) m e
  rw [hi]
  exact h
theorem sn_meth {C : Addr} {nm : Str} {F : Fn} {ho : F.own = true} {x : XE K} {as : XA K} {o : β} {eo : β → Vl} {fs : List (Str × PyData)} {m : Rs α} {f : α → List PyData} (hx : SV eo x st (.ok o)) (hi : instOf C nm (eo o) = .ok fs)
    (h : SC as st (fun xs => if xs.length + 1 = F.m then (F.f (.v (.i C fs) :: xs)).bind lOf else .no) m f) : SN f (.meth C nm F ho x as) st m := by
  have hx : x.ev st = .ok (eo o) := hx
  show Si ((x.ev st).bind _) m f
  rw [hx]
  show Si ((instOf C nm (eo o)).bind _) m f
  rw [hi]
  exact h
theorem si_me {F : Fn} {o : Av} {xs : List Av} {m : Rs α} {e : α → Vl} {n : Nat} (hm : F.m = n) (h : Si (F.f (o :: xs)) m e) (hl : Nat.beq (xs.length + 1) n = true := by rfl) : Si (if xs.length + 1 = F.m then F.f (o :: xs) else .no) m e := by
  rw [if_pos ((Nat.eq_of_beq_eq_true hl).trans hm.symm)]; exact h
theorem si_meN {F : Fn} {o : Av} {xs : List Av} {m : Rs α} {f : α → List PyData} {n : Nat} (hm : F.m = n) (h : Si (F.f (o :: xs)) m (fun a => Vl.d (.list (f a)))) (hl : Nat.beq (xs.length + 1) n = true := by rfl) : Si (if xs.length + 1 = F.m then (F.f (o :: xs)).bind lOf else .no) m f := by
  rw [if_pos ((Nat.eq_of_beq_eq_true hl).trans hm.symm)]; exact si_lOf h
theorem sv_make {C : Addr} {F : FnI} {as : XA K} {m : Rs α} {e : α → Vl} (h : SC as st (fun xs => if xs.length = F.m then (F.f xs).bind fun fs => .ok (.i C fs) else .no) m e) : SV e (.make C F as) st m := h
theorem si_make {C : Addr} {F : FnI} {xs : List Av} {m : Rs α} {fs : α → List (Str × PyData)} {n : Nat} (hm : F.m = n) (h : Si (F.f xs) m fs) (hl : Nat.beq xs.length n = true := by rfl) : Si (if xs.length = F.m then (F.f xs).bind fun fs => Rs.ok (Vl.i C fs) else .no) m (fun a => Vl.i C (fs a)) := by
  rw [if_pos ((Nat.eq_of_beq_eq_true hl).trans hm.symm)]
  cases m with
  | ok a => have h : F.f xs = .ok (fs a) := h; rw [h]; exact rfl
  | ex C k => have h : F.f xs = .ex C k := h; rw [h]; exact rfl
  | no => trivial
theorem inst_of {C : Addr} {nm : Str} {fs : List (Str × PyData)} (h : (fs.lookup nm).isNone = true) : instOf C nm (.i C fs) = .ok fs := if_pos ⟨rfl, h⟩
theorem sv_fld {C : Addr} {c : Cls K C} {f : Str} {hn : NoAttr K C f} {x : XE K} {o : β} {eo : β → Vl} {fs : List (Str × PyData)} {a : α} {E : En α} (hx : SV eo x st (.ok o)) (ho : eo o = .i C fs) (hl : fs.lookup f = some (E.e a)) : SV E.v (.fld C c f hn x) st (.ok a) := by
  have hx : x.ev st = .ok (eo o) := hx
  show (x.ev st).bind _ = _
  rw [hx, ho]
  show (if C = C then Rs.of ((fs.lookup f).map Vl.d) else .no) = _
  rw [if_pos rfl, hl]
  rfl
/-! builtins -/
theorem sv_bi {b : Bi K} {as : XA K} {m : Rs α} {e : α → Vl} (h : SC as st (fun xs => Rs.of (b.f xs)) m e) : SV e (.bi b as) st m := h
theorem sn_bi {b : BiN K} {as : XA K} {m : Rs α} {f : α → List PyData} (h : SC as st (fun xs => Rs.of (b.f xs)) m f) : SN f (.bi b as) st m := h
def lenI (xs : List α) : Int := (xs.length : Nat)
def iabs (n : Int) : Int := if n < 0 then -n else n
def bInt (b : Bool) : Int := if b = true then 1 else 0
theorem so_len {E : En α} {xs : List α} : Si (Rs.of ((Bi.len : Bi K).f [.l (xs.map E.e)])) (.ok (lenI xs)) eI.v := by
  show Rs.of (some (Vl.d (.int ((xs.map E.e).length : Nat)))) = _
  rw [List.length_map]; rfl
theorem so_lenS {xs : List Int} : Si (Rs.of ((Bi.len : Bi K).f [.v (.s xs)])) (.ok (lenI xs)) eI.v := rfl
theorem so_abs {n : Int} : Si (Rs.of ((Bi.abs : Bi K).f [.v (eI.v n)])) (.ok (iabs n)) eI.v := rfl
theorem so_min2 {m n : Int} : Si (Rs.of ((Bi.min2 : Bi K).f [.v (eI.v m), .v (eI.v n)])) (.ok (min m n)) eI.v := by
  show Rs.of (some (Vl.d (.int (if n < m then n else m)))) = Rs.ok (Vl.d (.int (min m n)))
  have : (if n < m then n else m) = min m n := by split <;> omega
  rw [this]; rfl
theorem so_max2 {m n : Int} : Si (Rs.of ((Bi.max2 : Bi K).f [.v (eI.v m), .v (eI.v n)])) (.ok (max m n)) eI.v := by
  show Rs.of (some (Vl.d (.int (if n > m then n else m)))) = Rs.ok (Vl.d (.int (max m n)))
  have : (if n > m then n else m) = max m n := by split <;> omega
  rw [this]; rfl
theorem so_int {n : Int} : Si (Rs.of ((Bi.int : Bi K).f [.v (eI.v n)])) (.ok n) eI.v := rfl
theorem so_intB {b : Bool} : Si (Rs.of ((Bi.int : Bi K).f [.v (eB.v b)])) (.ok (bInt b)) eI.v := rfl
theorem so_sum {xs : List Int} : Si (Rs.of ((Bi.sum : Bi K).f [.l (xs.map eI.e)])) (.ok xs.sum) eI.v := by
  show Rs.of ((intsOf (xs.map .int)).map fun ns => Vl.d (.int ns.sum)) = _
  rw [intsOf_map]; rfl
theorem so_any {xs : List Bool} : Si (Rs.of ((Bi.any : Bi K).f [.l (xs.map eB.e)])) (.ok (xs.any id)) eB.v := by
  show Rs.of ((boolsOf (xs.map .bool)).map fun ns => Vl.d (.bool (ns.any id))) = _
  rw [boolsOf_map]; rfl
theorem so_all {xs : List Bool} : Si (Rs.of ((Bi.all : Bi K).f [.l (xs.map eB.e)])) (.ok (xs.all id)) eB.v := by
  show Rs.of ((boolsOf (xs.map .bool)).map fun ns => Vl.d (.bool (ns.all id))) = _
  rw [boolsOf_map]; rfl
theorem so_gcd {a b : Int} : Si (Rs.of ((Bi.gcd : Bi K).f [.v (eI.v a), .v (eI.v b)])) (.ok ((Int.gcd a b : Nat) : Int)) eI.v := rfl
def lcmC (a b : Int) : Rs Int := grd (a.natAbs.log2 < 9000 ∧ b.natAbs.log2 < 9000) (.ok ((Int.lcm a b : Nat) : Int))
theorem so_lcm {a b : Int} : Si (Rs.of ((Bi.lcm : Bi K).f [.v (eI.v a), .v (eI.v b)])) (lcmC a b) eI.v := si_grd fun h => by
  show Rs.of (if a.natAbs.log2 < 9000 ∧ b.natAbs.log2 < 9000 then _ else _) = _
  rw [if_pos h]; rfl
theorem so_list {E : En α} {xs : List α} : Si (Rs.of ((BiN.list : BiN K).f [.l (xs.map E.e)])) (.ok xs) (List.map E.e) := rfl
def reprC (E : En α) (x : α) : Rs Str := grd (reprOk (E.e x) = true) (.ok (PyData.shown (E.e x)))
theorem so_repr {E : En α} {x : α} : Si (Rs.of ((Bi.repr : Bi K).f [.v (E.v x)])) (reprC E x) eS.v := si_grd fun h => by
  show Rs.of (if reprOk (E.e x) = true then _ else _) = _
  rw [if_pos h]; rfl
/-! slices -/
def SO (x : XO K) (st : List Sv) (m : Rs (Option Int)) : Prop := Si (x.ev st) m id
theorem so_none : SO (.none : XO K) st (.ok none) := rfl
theorem so_some {x : XE K} {i : Int} (h : SV eI.v x st (.ok i)) : SO (.some x) st (.ok (some i)) := by
  have h : x.ev st = .ok (eI.v i) := h
  show (((x.ev st).bind _).bind _) = _
  rw [h]; rfl
theorem so_someI {x : XE K} {m : Rs Int} (h : SV eI.v x st m) : SO (.some x) st (m.bind fun i => .ok (some i)) := by
  cases m with
  | ok i => exact so_some h
  | ex C n => have h : x.ev st = .ex C n := h; show (((x.ev st).bind _).bind _) = _; rw [h]; rfl
  | no => trivial
def cutT (xs : List α) (lo hi : Option Int) : List α := (xs.drop (HT.sIx xs.length 0 lo)).take (HT.sIx xs.length xs.length hi - HT.sIx xs.length 0 lo)
theorem cutD_map {f : α → PyData} {xs : List α} {lo hi : Option Int} : Z.cutD (xs.map f) lo hi = (cutT xs lo hi).map f := by
  unfold Z.cutD cutT
  rw [List.length_map, List.map_take, List.map_drop]
theorem el_of {f : α → List PyData} {x : XE K} {a : α} (h : SL f x st (.ok a)) : x.el st = some (f a) := by
  have h' : (match x.el st with
    | some ds => Rs.ok (Av.l ds)
    | none => match x.ev st with
      | .ex C n => .ex C n
      | _ => .no) = Rs.ok (Av.l (f a)) := h
  cases he : x.el st with
  | some ds => rw [he] at h'; cases h'; rfl
  | none =>
    rw [he] at h'
    cases hv : x.ev st with
    | ok _ => rw [hv] at h'; cases h'
    | ex _ _ => rw [hv] at h'; cases h'
    | no => rw [hv] at h'; cases h'
theorem sn_sl {E : En α} {x : XE K} {lo hi : XO K} {xs : List α} {l u : Option Int} (h : SL (List.map E.e) x st (.ok xs)) (h1 : SO lo st (.ok l)) (h2 : SO hi st (.ok u)) : SN (List.map E.e) (.sl x lo hi) st (.ok (cutT xs l u)) := by
  have e1 := Si.okV h1 rfl
  have e2 := Si.okV h2 rfl
  show (match x.el st, okV (lo.ev st), okV (hi.ev st) with
    | some ds, some l, some h => Rs.ok (Z.cutD ds l h)
    | _, _, _ => .no) = _
  rw [el_of h, e1, e2]
  show Rs.ok (Z.cutD (xs.map E.e) l u) = _
  rw [cutD_map]
theorem sn_slI {E : En α} {x : XE K} {lo hi : XO K} {m : Rs (List α)} {l u : Rs (Option Int)} (h : SL (List.map E.e) x st m) (h1 : SO lo st l) (h2 : SO hi st u) : SN (List.map E.e) (.sl x lo hi) st ((qu m).bind fun xs => (qu l).bind fun l => (qu u).bind fun u => .ok (cutT xs l u)) := by
  cases m with
  | ok xs =>
    cases l with
    | ok l =>
      cases u with
      | ok u => exact sn_sl h h1 h2
      | ex _ _ => trivial
      | no => trivial
    | ex _ _ => trivial
    | no => trivial
  | ex _ _ => trivial
  | no => trivial
theorem sn_slS {x : XE K} {lo hi : XO K} {xs : List Int} {l u : Option Int} (h : SV Vl.s x st (.ok xs)) (h1 : SO lo st (.ok l)) (h2 : SO hi st (.ok u)) : SN (List.map eI.e) (.slS x lo hi) st (.ok (cutT xs l u)) := by
  have e0 := Si.okV h rfl
  have e1 := Si.okV h1 rfl
  have e2 := Si.okV h2 rfl
  show (match okV (x.ev st), okV (lo.ev st), okV (hi.ev st) with
    | some (.s xs), some l, some h => Rs.ok (Z.cutD (xs.map .int) l h)
    | _, _, _ => .no) = _
  rw [e0, e1, e2]
  show Rs.ok (Z.cutD (xs.map PyData.int) l u) = _
  rw [cutD_map]
  rfl
/-! walks -/
theorem si_list {f : α → List PyData} {x : XE K} {m : Rs α} (h : SW f x st m) : SI f (.list x) st m := by
  show Si (match x.es st with
    | some ds => Rs.ok ds
    | none => match x.ev st with
      | .ex C n => .ex C n
      | _ => .no) m f
  cases m with
  | ok a => have h : x.es st = some (f a) := h; rw [h]; exact rfl
  | ex C n => have h : x.es st = none ∧ x.ev st = .ex C n := h; rw [h.1, h.2]; exact rfl
  | no => trivial
def enumL (xs : List α) : List (Int × α) := xs.zipIdx.map fun p => ((p.2 : Nat), p.1)
theorem enumD_map {f : α → PyData} {xs : List α} : enumD (xs.map f) = (enumL xs).map fun p => .tuple [.int p.1, f p.2] := by
  unfold enumD enumL
  rw [enum_map, List.map_map]
  rfl
theorem si_enum {E : En α} {x : XE K} {xs : List α} (h : SW (List.map E.e) x st (.ok xs)) : SI (List.map (eT2 eI E).e) (.enum x) st (.ok (enumL xs)) := by
  have h : x.es st = some (xs.map E.e) := h
  show (match x.es st with
    | some ds => Rs.ok (enumD ds)
    | none => .no) = _
  rw [h]
  show Rs.ok (enumD (xs.map E.e)) = _
  rw [enumD_map]
  rfl
theorem si_enumI {E : En α} {x : XE K} {m : Rs (List α)} (h : SW (List.map E.e) x st m) : SI (List.map (eT2 eI E).e) (.enum x) st ((qu m).bind fun xs => .ok (enumL xs)) := by
  cases m with
  | ok xs => exact si_enum h
  | ex _ _ => trivial
  | no => trivial
theorem zipD_mapT {f : α → PyData} {g : β → PyData} : ∀ (as : List α) (bs : List β), zipD (as.map f) (bs.map g) = (as.zip bs).map fun p => .tuple [f p.1, g p.2]
  | [], bs => by cases bs <;> rfl
  | a :: as, [] => rfl
  | a :: as, b :: bs => by
    show PyData.tuple [f a, g b] :: zipD (as.map f) (bs.map g) = _
    rw [zipD_mapT as bs]
    rfl
theorem si_zip {E : En α} {F : En β} {x y : XE K} {xs : List α} {ys : List β} (h : SW (List.map E.e) x st (.ok xs)) (h2 : SW (List.map F.e) y st (.ok ys)) : SI (List.map (eT2 E F).e) (.zip x y) st (.ok (xs.zip ys)) := by
  have h : x.es st = some (xs.map E.e) := h
  have h2 : y.es st = some (ys.map F.e) := h2
  show (match x.es st, y.es st with
    | some ds, some es => Rs.ok (zipD ds es)
    | _, _ => .no) = _
  rw [h, h2]
  show Rs.ok (zipD (xs.map E.e) (ys.map F.e)) = _
  rw [zipD_mapT]
  rfl
theorem si_zipI {E : En α} {F : En β} {x y : XE K} {m : Rs (List α)} {n : Rs (List β)} (h : SW (List.map E.e) x st m) (h2 : SW (List.map F.e) y st n) : SI (List.map (eT2 E F).e) (.zip x y) st ((qu m).bind fun xs => (qu n).bind fun ys => .ok (xs.zip ys)) := by
  cases m with
  | ok xs =>
    cases n with
    | ok ys => exact si_zip h h2
    | ex _ _ => trivial
    | no => trivial
  | ex _ _ => trivial
  | no => trivial
def rngL (lo hi : Int) : List Int := (List.range (hi - lo).toNat).map fun (k : Nat) => lo + (k : Int)
def rng1F (xs : List Av) : Rs (List PyData) := match avI1 xs with
    | some n => if n.natAbs < 4611686018427387904 then .ok (irange 0 n.toNat) else .no
    | none => .no
def rng2F (xs : List Av) : Rs (List PyData) := match avI2 xs with
    | some n => if n.1.natAbs < 4611686018427387904 ∧ n.2.natAbs < 4611686018427387904 then .ok (irange n.1 (n.2 - n.1).toNat) else .no
    | none => .no
theorem si_range1 {as : XA K} {m : Rs α} {f : α → List PyData} (h : SC as st rng1F m f) : SI f (.range1 as) st m := h
theorem si_range2 {as : XA K} {m : Rs α} {f : α → List PyData} (h : SC as st rng2F m f) : SI f (.range2 as) st m := h
def rng1C (n : Int) : Rs (List Int) := grd (n.natAbs < 4611686018427387904) (.ok (rngL 0 n))
def rng2C (l n : Int) : Rs (List Int) := grd (l.natAbs < 4611686018427387904 ∧ n.natAbs < 4611686018427387904) (.ok (rngL l n))
theorem irange_map {l n : Int} : irange l (n - l).toNat = (rngL l n).map eI.e := by
  unfold irange rngL
  rw [List.map_map]
  rfl
theorem so_rng1p {n : Int} (h : n.natAbs < 4611686018427387904) : Si (rng1F [.v (eI.v n)]) (.ok (rngL 0 n)) (List.map eI.e) := by
  show (if n.natAbs < 4611686018427387904 then Rs.ok (irange 0 n.toNat) else .no) = _
  rw [if_pos h, ← irange_map]
  rw [Int.sub_zero]
theorem so_rng1 {n : Int} : Si (rng1F [.v (eI.v n)]) (rng1C n) (List.map eI.e) := si_grd so_rng1p
theorem so_rng2 {l n : Int} : Si (rng2F [.v (eI.v l), .v (eI.v n)]) (rng2C l n) (List.map eI.e) := si_grd fun h => by
  show (if l.natAbs < 4611686018427387904 ∧ n.natAbs < 4611686018427387904 then Rs.ok (irange l (n - l).toNat) else .no) = _
  rw [if_pos h, irange_map]
/-! comprehensions -/
/-- one item: left out, or made -/
def lcG (p : α → Rs Bool) (q : α → Rs β) : List α → Rs (List β)
  | [] => .ok []
  | a :: as => (qu (p a)).bind fun c => if c = true then (qu (q a)).bind fun b => (lcG p q as).bind fun bs => .ok (b :: bs) else lcG p q as
def lcM (xs : List α) (p : α → Rs Bool) (q : α → Rs β) : Rs (List β) := grd (xs.length ≤ 100000) (lcG p q xs)
def cns (o : Option PyData) (r : List PyData) : List PyData := match o with
  | some x => x :: r
  | none => r
theorem lcL_cons {g : XG K} {c : XT K} {x : XE K} {d : PyData} {ds : List PyData} : lcL g c x st (d :: ds) = (lcOne g c x st d).bind fun o => (lcL g c x st ds).map (cns o) := by
  rw [lcL]
  congr 1
  funext o
  cases o <;> rfl
theorem sn_lcG {g : XG K} {c : XT K} {x : XE K} {α β : Type} {E : En β} {f : α → PyData} {p : α → Rs Bool} {q : α → Rs β} (hg : ∀ a, ∃ st1, g.ev (f a) st = some st1 ∧ ST c st1 (p a) ∧ SV E.v x st1 (q a)) :
    ∀ xs : List α, Si (Rs.of (lcL g c x st (xs.map f))) (lcG p q xs) (List.map E.e)
  | [] => rfl
  | a :: as => by
    obtain ⟨st1, h1, h2, h3⟩ := hg a
    have ih := sn_lcG hg as
    rw [List.map_cons, lcL_cons, lcG]
    have key : ∀ (o : Option PyData), lcOne g c x st (f a) = some o → ∀ (M : Rs (List β)), (∀ ds bs, lcL g c x st (as.map f) = some ds → lcG p q as = .ok bs → ds = bs.map E.e → ∃ r, M = .ok r ∧ cns o ds = r.map E.e) → (lcG p q as = .no → M = .no) → (∀ C n, lcG p q as = .ex C n → False) → Si (Rs.of ((lcOne g c x st (f a)).bind fun o => (lcL g c x st (as.map f)).map (cns o))) M (List.map E.e) := by
      intro o ho M h1 h2 h3
      rw [ho]
      cases hm : lcG p q as with
      | ok bs =>
        rw [hm] at ih
        have ih : Rs.of (lcL g c x st (as.map f)) = .ok (bs.map E.e) := ih
        cases hl : lcL g c x st (as.map f) with
        | none => rw [hl] at ih; cases ih
        | some ds =>
          rw [hl] at ih
          cases ih
          obtain ⟨r, hr, hr2⟩ := h1 _ bs hl hm rfl
          rw [hr]
          show Rs.of (some _) = _
          rw [hr2]; rfl
      | ex C n => exact (h3 C n hm).elim
      | no => rw [h2 hm]; trivial
    have noex : ∀ C n, lcG p q as = .ex C n → False := by
      intro C n he
      rw [he] at ih
      have ih : Rs.of (lcL g c x st (as.map f)) = .ex C n := ih
      cases hl : lcL g c x st (as.map f) with
      | none => rw [hl] at ih; cases ih
      | some ds => rw [hl] at ih; cases ih
    have ho : lcOne g c x st (f a) = (match okV (c.ev st1) with
      | some false => some none
      | some true => match okV (x.ev st1) with
        | some (.d x) => some (some x)
        | _ => none
      | none => none) := by
      unfold lcOne
      rw [h1]; rfl
    cases hp : p a with
    | no => trivial
    | ex _ _ => trivial
    | ok k =>
      rw [hp] at h2
      have h2 : okV (c.ev st1) = some k := Si.okV h2 rfl
      rw [h2] at ho
      cases k with
      | false =>
        refine key none ho _ (fun ds bs _ hb hd => ⟨bs, hb, hd⟩) (fun z => z) noex
      | true =>
        cases hq : q a with
        | no => trivial
        | ex _ _ => trivial
        | ok b =>
          rw [hq] at h3
          have h3 : okV (x.ev st1) = some (E.v b) := Si.okV h3 rfl
          rw [h3] at ho
          refine key (some (E.e b)) ho _ (fun ds bs _ hb hd => ⟨b :: bs, ?_, by rw [hd]; rfl⟩) (fun z => ?_) noex
          · show (lcG p q as).bind _ = _
            rw [hb]; rfl
          · show (lcG p q as).bind _ = _
            rw [z]; rfl
theorem sn_lc {it : XI K} {g : XG K} {c : XT K} {x : XE K} {vs : List Nat} {E : En β} {F : En α} {xs : List α} {p : α → Rs Bool} {q : α → Rs β} (hi : SI (List.map F.e) it st (.ok xs)) (hx : allXb st vs = true) (ht : (g.T.all fun i => decide (i ∈ vs)) = true)
    (hg : ∀ a, ∃ st1, g.ev (F.e a) st = some st1 ∧ ST c st1 (p a) ∧ SV E.v x st1 (q a)) : SN (List.map E.e) (.lc it g c x vs) st (lcM xs p q) := by
  have hi : it.ev st = .ok (xs.map F.e) := hi
  refine si_grd fun hl => ?_
  show Si ((it.ev st).bind fun ds => if ds.length ≤ 100000 ∧ allXb st vs = true ∧ (g.T.all fun i => decide (i ∈ vs)) = true then Rs.of (lcL g c x st ds) else .no) _ _
  rw [hi]
  show Si (if (xs.map F.e).length ≤ 100000 ∧ allXb st vs = true ∧ (g.T.all fun i => decide (i ∈ vs)) = true then Rs.of (lcL g c x st (xs.map F.e)) else .no) _ _
  rw [if_pos ⟨by rw [List.length_map]; exact hl, hx, ht⟩]
  exact sn_lcG hg xs
theorem sn_lcI {it : XI K} {g : XG K} {c : XT K} {x : XE K} {vs : List Nat} {E : En β} {F : En α} {m : Rs (List α)} {p : α → Rs Bool} {q : α → Rs β} (hi : SI (List.map F.e) it st m) (hx : allXb st vs = true) (ht : (g.T.all fun i => decide (i ∈ vs)) = true)
    (hg : ∀ a, ∃ st1, g.ev (F.e a) st = some st1 ∧ ST c st1 (p a) ∧ SV E.v x st1 (q a)) : SN (List.map E.e) (.lc it g c x vs) st (m.bind fun xs => lcM xs p q) := by
  cases m with
  | ok xs => exact sn_lc hi hx ht hg
  | ex C n => have hi : it.ev st = .ex C n := hi; show ((it.ev st).bind _) = _; rw [hi]; rfl
  | no => trivial
theorem sn_lend {i : Nat} {n : XN K} {ds : List PyData} {m : Rs α} {f : α → List PyData} (hi : st[i]? = some (.ol ds)) (h : SN f n (st.set i (.bl ds)) m) : SN f (.lend i n) st (qu m) := by
  show Si (match st[i]? with
    | some (.ol ds) => (match n.ev (st.set i (.bl ds)) with
      | .ok r => Rs.ok r
      | _ => .no)
    | _ => n.ev st) _ _
  rw [hi]
  cases m with
  | ok a => have h : n.ev (st.set i (.bl ds)) = .ok (f a) := h; show (match n.ev (st.set i (.bl ds)) with
      | .ok r => Rs.ok r
      | _ => .no) = _; rw [h]
  | ex _ _ => trivial
  | no => trivial
theorem sn_lendp {i : Nat} {n : XN K} {ds : List PyData} {a : α} {f : α → List PyData} (hi : st[i]? = some (.ol ds)) (h : SN f n (st.set i (.bl ds)) (.ok a)) : SN f (.lend i n) st (.ok a) := sn_lend hi h
theorem sn_blank {i : Nat} {n : XN K} {v : Vl} {m : Rs α} {f : α → List PyData} (hi : st[i]? = some (.v v)) (h : SN f n (st.set i .x) m) : SN f (.blank i n) st (qu m) := by
  show Si (match st[i]? with
    | some (.v _) => (match n.ev (st.set i .x) with
      | .ok r => Rs.ok r
      | _ => .no)
    | _ => n.ev st) _ _
  rw [hi]
  cases m with
  | ok a => have h : n.ev (st.set i .x) = .ok (f a) := h; show (match n.ev (st.set i .x) with
      | .ok r => Rs.ok r
      | _ => .no) = _; rw [h]
  | ex _ _ => trivial
  | no => trivial
/-- the slot holds nothing: as if it weren't there -/
theorem sn_blank0 {i : Nat} {n : XN K} {m : Rs α} {f : α → List PyData} (hi : st[i]? = some .x) (h : SN f n st m) : SN f (.blank i n) st m := by
  show Si (match st[i]? with
    | some (.v _) => (match n.ev (st.set i .x) with
      | .ok r => Rs.ok r
      | _ => .no)
    | _ => n.ev st) _ _
  rw [hi]
  exact h
end
end R

set_option Elab.async false
set_option linter.all false
set_option maxRecDepth 100000
set_option maxHeartbeats 2000000
/-! M3: statements. -/
namespace R
open PySem PySem.Spec PyProof.Rows L2 Z
/-! forgetting slots -/
def blk (js : List Nat) (st : List Sv) : List Sv := match js with
  | [] => st
  | j :: js => blk js (st.set j .x)
theorem blk_len : ∀ (js : List Nat) (st : List Sv), (blk js st).length = st.length
  | [], st => rfl
  | j :: js, st => by
    show (blk js (st.set j .x)).length = _
    rw [blk_len js, List.length_set]
section
variable {K : PySem.W.Frag}
theorem wk_trans : ∀ {a b c : List Sl}, Wk a b → Wk b c → Wk a c
  | _, _, _, .nil, .nil => .nil
  | _, _, _, .x w, .x v => .x (wk_trans w v)
  | _, _, _, .x w, .k v => .x (wk_trans w v)
  | _, _, _, .k w, .x v => .x (wk_trans w v)
  | _, _, _, .k w, .k v => .k (wk_trans w v)
theorem wk_set {st : List Sv} {j : Nat} : Wk (sls K st) (sls K (st.set j .x)) := wk_of (by rw [sls_len, sls_len, List.length_set]) fun i => by
  rw [sls_set]
  by_cases h : j = i
  · subst h
    rw [List.getElem?_set]
    by_cases hl : j < (sls K st).length
    · left; rw [if_pos rfl, if_pos hl]; rfl
    · right; rw [if_pos rfl, if_neg hl, List.getElem?_eq_none (by omega)]
  · right; rw [List.getElem?_set_ne h]
theorem wk_blk : ∀ (js : List Nat) (st : List Sv), Wk (sls K st) (sls K (blk js st))
  | [], st => Wk.refl _
  | j :: js, st => wk_trans wk_set (wk_blk js (st.set j .x))
theorem Ex.outbk {W : WX} {t : TS} {ρ ρ' ρ1 : List Sl} (w : Wk ρ' ρ1) (h : Ex W t ρ (.bk ρ')) : Ex W t ρ (.bk ρ1) := ⟨fun D s q => h.run D s (Nx.weak w q)⟩
theorem Ex.outct {W : WX} {t : TS} {ρ ρ' ρ1 : List Sl} (w : Wk ρ' ρ1) (h : Ex W t ρ (.ct ρ')) : Ex W t ρ (.ct ρ1) := ⟨fun D s q => h.run D s (Nx.weak w q)⟩
def XS.pre (js : List Nat) (a : XS K) : XS K where
  ts := a.ts
  ev := fun st => a.ev (blk js st)
  ok := fun md W st w => by
    have ha := a.ok md W (blk js st) w
    have k := wk_blk (K := K) js st
    show OcOk K md W _ _ (a.ev (blk js st))
    cases he : a.ev (blk js st) with
    | no => trivial
    | xc s C n => rw [he] at ha; exact fun l => Ex.weak k (ha l)
    | nx s => rw [he] at ha; exact Ex.weak k ha
    | rt s => rw [he] at ha; exact Ex.weak k ha
    | ro s => rw [he] at ha; exact Ex.weak k ha
    | bk s => rw [he] at ha; exact Ex.weak k ha
    | ct s => rw [he] at ha; exact Ex.weak k ha
def postO (js : List Nat) : Oc → Oc
  | .nx st => .nx (blk js st)
  | .bk st => .bk (blk js st)
  | .ct st => .ct (blk js st)
  | o => o
def XS.post (js : List Nat) (a : XS K) : XS K where
  ts := a.ts
  ev := fun st => postO js (a.ev st)
  ok := fun md W st w => by
    have ha := a.ok md W st w
    show OcOk K md W _ _ (postO js (a.ev st))
    cases he : a.ev st with
    | no => trivial
    | xc s C n => rw [he] at ha; exact ha
    | nx s => rw [he] at ha; exact Ex.out (wk_blk js s) ha
    | rt s => rw [he] at ha; exact ha
    | ro s => rw [he] at ha; exact ha
    | bk s => rw [he] at ha; exact Ex.outbk (wk_blk js s) ha
    | ct s => rw [he] at ha; exact Ex.outct (wk_blk js s) ha
end
/-! outcomes -/
def Oc.isNx : Oc → Bool
  | .nx _ => true
  | _ => false
def Oc.isRet : Oc → Bool
  | .rt _ => true
  | .ro _ => true
  | _ => false
inductive J (τ α : Type) where
  | nx (t : τ) | ex (a : α)
inductive LO (σ α : Type) where
  | nx (s : σ) | bk (s : σ) | ex (a : α)
section
variable {K : PySem.W.Frag} {α β γ δ τ σ : Type} {st : List Sv}
def bindJ (m : Rs (J τ α)) (g : τ → Rs α) : Rs α := m.bind fun j => match j with
  | .nx t => g t
  | .ex a => .ok a
def SS (s : XS K) (st : List Sv) (m : Rs α) (P : α → Oc → Prop) : Prop := match m with
  | .ok a => P a (s.ev st)
  | .ex C n => ∃ st', st'.length = st.length ∧ s.ev st = .xc st' C n
  | .no => True
def PN (es : τ → List Sv) (t : τ) (o : Oc) : Prop := o = .nx (es t)
def PX (P : α → Oc → Prop) (a : α) (o : Oc) : Prop := P a o ∧ o.isNx = false
def PJ (es : τ → List Sv) (P : α → Oc → Prop) (j : J τ α) (o : Oc) : Prop := match j with
  | .nx t => o = .nx (es t)
  | .ex a => P a o ∧ o.isNx = false
/-- a loop's body that has no other ends -/
def PC (es : σ → List Sv) (s : σ) (o : Oc) : Prop := o = .nx (es s) ∨ o = .ct (es s)
def PL (es : σ → List Sv) (P : α → Oc → Prop) (j : LO σ α) (o : Oc) : Prop := match j with
  | .nx s => o = .nx (es s) ∨ o = .ct (es s)
  | .bk s => o = .bk (es s)
  | .ex a => P a o ∧ o.isRet = true
def PF (own : Bool) (e : α → Vl) (a : α) (o : Oc) : Prop := o.res own = .ok (e a)
theorem ss_ex {s : XS K} {C : Addr} {n : Int} {P : α → Oc → Prop} {st' : List Sv} (hl : st'.length = st.length) (h : s.ev st = .xc st' C n) : SS s st (.ex C n : Rs α) P := ⟨st', hl, h⟩
theorem si_runX {s : XS K} {own : Bool} {k : Nat} {xs : List Av} {m : Rs α} {e : α → Vl} (h : SS s (start xs k) m (PF own e)) : Si (runX s own k xs) m e := by
  cases m with
  | ok a => exact h
  | ex C n =>
    obtain ⟨st', _, h2⟩ := h
    show Oc.res own (s.ev (start xs k)) = _
    rw [h2]; rfl
  | no => trivial
theorem ss_last {a : XS K} {m : Rs α} {P : α → Oc → Prop} (h : SS (.seq a .nx) st m P) : SS a st m P := by
  have e : (XS.seq a .nx).ev st = a.ev st := by
    show (match a.ev st with
    | .nx st' => Oc.nx st'
    | o => o) = _
    cases a.ev st <;> rfl
  cases m with
  | ok x => have h : P x ((XS.seq a .nx).ev st) := h; rw [e] at h; exact h
  | ex C n => obtain ⟨st', h1, h2⟩ := h; rw [e] at h2; exact ⟨st', h1, h2⟩
  | no => trivial
theorem seq_nx {a b : XS K} {st1 : List Sv} (h : a.ev st = .nx st1) : (XS.seq a b).ev st = b.ev st1 := by
  show (match a.ev st with
    | .nx st' => b.ev st'
    | o => o) = _
  rw [h]
theorem seq_x {a b : XS K} {o : Oc} (h : a.ev st = o) (k : o.isNx = false) : (XS.seq a b).ev st = o := by
  show (match a.ev st with
    | .nx st' => b.ev st'
    | o => o) = _
  rw [h]
  cases o with
  | nx _ => cases k
  | _ => rfl
theorem ss_step {a b : XS K} {st1 : List Sv} {m : Rs α} {P : α → Oc → Prop} (h : a.ev st = .nx st1) (hl : st1.length = st.length) (k : SS b st1 m P) : SS (.seq a b) st m P := by
  have e := seq_nx (b := b) h
  cases m with
  | ok x => show P x ((XS.seq a b).ev st); rw [e]; exact k
  | ex C n => obtain ⟨st', h1, h2⟩ := k; exact ⟨st', h1.trans hl, by rw [e]; exact h2⟩
  | no => trivial
theorem ss_xc {a b : XS K} {C : Addr} {n : Int} {st1 : List Sv} {P : α → Oc → Prop} (h : a.ev st = .xc st1 C n) (hl : st1.length = st.length) : SS (.seq a b) st (.ex C n : Rs α) P := ⟨st1, hl, seq_x h rfl⟩
theorem ss_seq {a b : XS K} {m : Rs τ} {es : τ → List Sv} {g : τ → Rs α} {P : α → Oc → Prop} (h : SS a st m (PN es)) (hl : ∀ t, (es t).length = st.length) (k : ∀ t, SS b (es t) (g t) P) : SS (.seq a b) st (m.bind g) P := by
  cases m with
  | ok t => exact ss_step h (hl t) (k t)
  | ex C n => obtain ⟨st', h1, h2⟩ := h; exact ss_xc h2 h1
  | no => trivial
theorem ss_seqJ {a b : XS K} {m : Rs (J τ α)} {es : τ → List Sv} {g : τ → Rs α} {P : α → Oc → Prop} (h : SS a st m (PJ es P)) (hl : ∀ t, (es t).length = st.length) (k : ∀ t, SS b (es t) (g t) P) : SS (.seq a b) st (bindJ m g) P := by
  cases m with
  | ok j =>
    cases j with
    | nx t => exact ss_step h (hl t) (k t)
    | ex x =>
      obtain ⟨h1, h2⟩ := h
      show P x ((XS.seq a b).ev st)
      rw [seq_x rfl h2]
      exact h1
  | ex C n => obtain ⟨st', h1, h2⟩ := h; exact ss_xc h2 h1
  | no => trivial
theorem ss_nx {a : α} {P : α → Oc → Prop} (h : P a (.nx st)) : SS (.nx : XS K) st (.ok a) P := h
theorem ss_brk {a : α} {P : α → Oc → Prop} (h : P a (.bk st)) : SS (.brk : XS K) st (.ok a) P := h
theorem ss_cnt {a : α} {P : α → Oc → Prop} (h : P a (.ct st)) : SS (.cnt : XS K) st (.ok a) P := h
theorem ss_post {js : List Nat} {a : XS K} {m : Rs α} {P : α → Oc → Prop} (h : SS a st m (fun t o => P t (postO js o))) : SS (.post js a) st m P := by
  cases m with
  | ok t => exact h
  | ex C n => obtain ⟨st', h1, h2⟩ := h; exact ⟨st', h1, by show postO js (a.ev st) = _; rw [h2]; rfl⟩
  | no => trivial
theorem ss_pre {js : List Nat} {a : XS K} {st1 : List Sv} {m : Rs α} {P : α → Oc → Prop} (hs : blk js st = st1) (h : SS a st1 m P) : SS (.pre js a) st m P := by
  have hl : st1.length = st.length := by rw [← hs, blk_len]
  cases m with
  | ok t => show P t (a.ev (blk js st)); rw [hs]; exact h
  | ex C n => obtain ⟨st', h1, h2⟩ := h; exact ⟨st', h1.trans hl, by show a.ev (blk js st) = _; rw [hs]; exact h2⟩
  | no => trivial
theorem ss_preS {js : List Nat} {a b : XS K} {st1 : List Sv} {m : Rs α} {P : α → Oc → Prop} (hs : blk js st = st1) (h : SS (.seq a b) st1 m P) : SS (.seq (.pre js a) b) st m P := ss_pre (a := .seq a b) hs h
theorem frz_eq {i : Nat} {ds : List PyData} (hi : st[i]? = some (.ol ds)) : frz i st = st.set i (.v (.d (.list ds))) := by
  unfold frz
  rw [hi]
theorem ss_frz {i : Nat} {a : XS K} {ds : List PyData} {st1 : List Sv} {m : Rs α} {P : α → Oc → Prop} (hi : st[i]? = some (.ol ds)) (hs : st.set i (.v (.d (.list ds))) = st1) (h : SS a st1 m P) : SS (.frz i a) st m P := by
  have hl : st1.length = st.length := by rw [← hs, List.length_set]
  have e : (XS.frz i a).ev st = a.ev st1 := by
    show a.ev (frz i st) = _
    rw [frz_eq hi, hs]
  cases m with
  | ok t => show P t _; rw [e]; exact h
  | ex C n => obtain ⟨st', h1, h2⟩ := h; exact ⟨st', h1.trans hl, by rw [e]; exact h2⟩
  | no => trivial
theorem ss_frzS {i : Nat} {a b : XS K} {ds : List PyData} {st1 : List Sv} {m : Rs α} {P : α → Oc → Prop} (hi : st[i]? = some (.ol ds)) (hs : st.set i (.v (.d (.list ds))) = st1) (h : SS (.seq a b) st1 m P) : SS (.seq (.frz i a) b) st m P := by
  have := ss_frz (a := .seq a b) hi hs h
  exact this
/-- a list that has been frozen before -/
theorem frz_v {i : Nat} {v : Vl} (hi : st[i]? = some (.v v)) : frz i st = st := by
  unfold frz
  rw [hi]
theorem ss_frzV {i : Nat} {a b : XS K} {v : Vl} {m : Rs α} {P : α → Oc → Prop} (hi : st[i]? = some (.v v)) (h : SS (.seq a b) st m P) : SS (.seq (.frz i a) b) st m P := by
  have e : ∀ b, (XS.seq (.frz i a) b).ev st = (XS.seq a b).ev st := fun b => by
    show (match a.ev (frz i st) with
    | .nx st' => b.ev st'
    | o => o) = _
    rw [frz_v hi]; rfl
  cases m with
  | ok t => show P t _; rw [e]; exact h
  | ex C n => obtain ⟨st', h1, h2⟩ := h; exact ⟨st', h1, by rw [e]; exact h2⟩
  | no => trivial
/-! assignments -/
theorem ss_set {i : Nat} {x : XE K} {b : XS K} {e : γ → Vl} {u : γ} {st1 : List Sv} {m : Rs α} {P : α → Oc → Prop} (h : SV e x st (.ok u)) (hs : st.set i (.v (e u)) = st1) (k : SS b st1 m P) : SS (.seq (.set i x) b) st m P := by
  have h : x.ev st = .ok (e u) := h
  refine ss_step (st1 := st1) ?_ (by rw [← hs, List.length_set]) k
  show (x.ev st).oc st _ = _
  rw [h]
  show Oc.nx _ = _
  rw [hs]
theorem oc_xc {r : Rs γ} {f : γ → Oc} {C : Addr} {n : Int} (h : r = .ex C n) : r.oc st f = .xc st C n := by rw [h]; rfl
theorem ss_setI {i : Nat} {x : XE K} {b : XS K} {e : γ → Vl} {n : Rs γ} {st1 : γ → List Sv} {g : γ → Rs α} {P : α → Oc → Prop} (h : SV e x st n) (hs : ∀ u, st.set i (.v (e u)) = st1 u) (k : ∀ u, SS b (st1 u) (g u) P) : SS (.seq (.set i x) b) st (n.bind g) P := by
  cases n with
  | ok u => exact ss_set h (hs u) (k u)
  | ex C n => exact ss_xc (oc_xc h) rfl
  | no => trivial
theorem ss_setN {i : Nat} {x : XN K} {b : XS K} {f : γ → List PyData} {u : γ} {st1 : List Sv} {m : Rs α} {P : α → Oc → Prop} (h : SN f x st (.ok u)) (hs : st.set i (.ol (f u)) = st1) (hi : Nat.blt i st.length = true) (k : SS b st1 m P) : SS (.seq (.setN i x) b) st m P := by
  have h : x.ev st = .ok (f u) := h
  refine ss_step (st1 := st1) ?_ (by rw [← hs, List.length_set]) k
  show (x.ev st).oc st _ = _
  rw [h]
  show (if i < st.length then Oc.nx _ else .no) = _
  rw [if_pos (show i < st.length from Nat.le_of_ble_eq_true hi), hs]
theorem ss_setNI {i : Nat} {x : XN K} {b : XS K} {f : γ → List PyData} {n : Rs γ} {st1 : γ → List Sv} {g : γ → Rs α} {P : α → Oc → Prop} (h : SN f x st n) (hs : ∀ u, st.set i (.ol (f u)) = st1 u) (hi : Nat.blt i st.length = true) (k : ∀ u, SS b (st1 u) (g u) P) : SS (.seq (.setN i x) b) st (n.bind g) P := by
  cases n with
  | ok u => exact ss_setN h (hs u) hi (k u)
  | ex C n => exact ss_xc (oc_xc h) rfl
  | no => trivial
theorem ss_asg {t : XG K} {x : XE K} {b : XS K} {e : γ → Vl} {u : γ} {d : PyData} {st1 : List Sv} {m : Rs α} {P : α → Oc → Prop} (h : SV e x st (.ok u)) (he : e u = .d d) (hs : t.ev d st = some st1) (hl : st1.length = st.length) (k : SS b st1 m P) : SS (.seq (.asg t x) b) st m P := by
  have h : x.ev st = .ok (e u) := h
  refine ss_step (st1 := st1) ?_ hl k
  show (x.ev st).oc st _ = _
  rw [h, he]
  show (match t.ev d st with
      | some st' => Oc.nx st'
      | none => .no) = _
  rw [hs]
theorem ss_asgI {t : XG K} {x : XE K} {b : XS K} {e : γ → Vl} {n : Rs γ} {d : γ → PyData} {st1 : γ → List Sv} {g : γ → Rs α} {P : α → Oc → Prop} (h : SV e x st n) (he : ∀ u, e u = .d (d u)) (hs : ∀ u, t.ev (d u) st = some (st1 u)) (hl : ∀ u, (st1 u).length = st.length) (k : ∀ u, SS b (st1 u) (g u) P) : SS (.seq (.asg t x) b) st (n.bind g) P := by
  cases n with
  | ok u => exact ss_asg h (he u) (hs u) (hl u) (k u)
  | ex C n => exact ss_xc (oc_xc h) rfl
  | no => trivial
theorem ss_par {i j : Nat} {x y : XE K} {b : XS K} {e1 : γ → Vl} {e2 : δ → Vl} {n1 : Rs γ} {n2 : Rs δ} {st1 : γ → δ → List Sv} {g : γ → δ → Rs α} {P : α → Oc → Prop} (h1 : SV e1 x st n1) (h2 : SV e2 y st n2) (hs : ∀ u v, (st.set i (.v (e1 u))).set j (.v (e2 v)) = st1 u v)
    (k : ∀ u v, SS b (st1 u v) (g u v) P) : SS (.seq (.par i j (.cons false x (.cons false y .nil))) b) st (n1.bind fun u => n2.bind fun v => g u v) P := by
  cases n1 with
  | no => trivial
  | ex C n =>
    have h1 : x.ev st = .ex C n := h1
    refine ss_xc (st1 := st) ?_ rfl
    show (((x.ev st).bind _).bind _).oc st _ = _
    rw [h1]; rfl
  | ok u =>
    have h1 : x.ev st = .ok (e1 u) := h1
    cases n2 with
    | no => trivial
    | ex C n =>
      have h2 : y.ev st = .ex C n := h2
      refine ss_xc (st1 := st) ?_ rfl
      show (((x.ev st).bind _).bind _).oc st _ = _
      rw [h1]
      show ((((y.ev st).bind _).bind _).bind _).oc st _ = _
      rw [h2]; rfl
    | ok v =>
      have h2 : y.ev st = .ok (e2 v) := h2
      refine ss_step (st1 := st1 u v) ?_ (by rw [← hs, List.length_set, List.length_set]) (k u v)
      show (((x.ev st).bind _).bind _).oc st _ = _
      rw [h1]
      show ((((y.ev st).bind _).bind _).bind _).oc st _ = _
      rw [h2]
      show Oc.nx _ = _
      rw [hs]
theorem ss_parpp {i j : Nat} {x y : XE K} {b : XS K} {e1 : γ → Vl} {e2 : δ → Vl} {u : γ} {v : δ} {st1 : List Sv} {m : Rs α} {P : α → Oc → Prop} (h1 : SV e1 x st (.ok u)) (h2 : SV e2 y st (.ok v)) (hs : (st.set i (.v (e1 u))).set j (.v (e2 v)) = st1) (k : SS b st1 m P) : SS (.seq (.par i j (.cons false x (.cons false y .nil))) b) st m P := by
  refine ss_step (st1 := st1) ?_ (by rw [← hs, List.length_set, List.length_set]) k
  have h1 : x.ev st = .ok (e1 u) := h1
  have h2 : y.ev st = .ok (e2 v) := h2
  show (((x.ev st).bind _).bind _).oc st _ = _
  rw [h1]
  show ((((y.ev st).bind _).bind _).bind _).oc st _ = _
  rw [h2]
  show Oc.nx _ = _
  rw [hs]
theorem ss_parpi {i j : Nat} {x y : XE K} {b : XS K} {e1 : γ → Vl} {e2 : δ → Vl} {u : γ} {n2 : Rs δ} {st1 : δ → List Sv} {g : δ → Rs α} {P : α → Oc → Prop} (h1 : SV e1 x st (.ok u)) (h2 : SV e2 y st n2) (hs : ∀ v, (st.set i (.v (e1 u))).set j (.v (e2 v)) = st1 v) (k : ∀ v, SS b (st1 v) (g v) P) : SS (.seq (.par i j (.cons false x (.cons false y .nil))) b) st (n2.bind g) P := by
  cases n2 with
  | no => trivial
  | ok v => exact ss_parpp h1 h2 (hs v) (k v)
  | ex C n =>
    have h1 : x.ev st = .ok (e1 u) := h1
    have h2 : y.ev st = .ex C n := h2
    refine ss_xc (st1 := st) ?_ rfl
    show (((x.ev st).bind _).bind _).oc st _ = _
    rw [h1]
    show ((((y.ev st).bind _).bind _).bind _).oc st _ = _
    rw [h2]; rfl
theorem ss_parip {i j : Nat} {x y : XE K} {b : XS K} {e1 : γ → Vl} {e2 : δ → Vl} {n1 : Rs γ} {v : δ} {st1 : γ → List Sv} {g : γ → Rs α} {P : α → Oc → Prop} (h1 : SV e1 x st n1) (h2 : SV e2 y st (.ok v)) (hs : ∀ u, (st.set i (.v (e1 u))).set j (.v (e2 v)) = st1 u) (k : ∀ u, SS b (st1 u) (g u) P) : SS (.seq (.par i j (.cons false x (.cons false y .nil))) b) st (n1.bind g) P := by
  cases n1 with
  | no => trivial
  | ok u => exact ss_parpp h1 h2 (hs u) (k u)
  | ex C n =>
    have h1 : x.ev st = .ex C n := h1
    refine ss_xc (st1 := st) ?_ rfl
    show (((x.ev st).bind _).bind _).oc st _ = _
    rw [h1]; rfl
theorem ss_drop {x : XE K} {b : XS K} {e : γ → Vl} {n : Rs γ} {m : Rs α} {P : α → Oc → Prop} (h : SV e x st n) (k : SS b st m P) : SS (.seq (.drop x) b) st (n.bind fun _ => m) P := by
  cases n with
  | ok u =>
    have h : x.ev st = .ok (e u) := h
    refine ss_step (st1 := st) ?_ rfl k
    show (x.ev st).oc st _ = _
    rw [h]; rfl
  | ex C n => exact ss_xc (oc_xc h) rfl
  | no => trivial
def pushC (xs : List α) (a : α) : Rs (List α) := grd (xs.length < 1000000) (.ok (xs ++ [a]))
theorem ss_app {i : Nat} {x : XE K} {b : XS K} {E : En γ} {xs : List γ} {u : γ} {st1 : List γ → List Sv} {g : List γ → Rs α} {P : α → Oc → Prop} (hi : st[i]? = some (.ol (xs.map E.e))) (h : SV E.v x st (.ok u)) (hs : ∀ ys : List γ, st.set i (.ol (ys.map E.e)) = st1 ys) (k : ∀ ys, SS b (st1 ys) (g ys) P) : SS (.seq (.app i x) b) st ((pushC xs u).bind g) P := by
  unfold pushC grd
  by_cases hc : xs.length < 1000000
  · rw [if_pos hc]
    have h : x.ev st = .ok (E.v u) := h
    refine ss_step (st1 := st1 (xs ++ [u])) ?_ (by rw [← hs, List.length_set]) (k _)
    show (match st[i]? with
    | some (.ol ds) => (x.ev st).oc st fun a => match a with
      | Vl.d d => if ds.length < 1000000 then Oc.nx (st.set i (.ol (ds ++ [d]))) else .no
      | _ => .no
    | _ => .no) = _
    rw [hi]
    show (x.ev st).oc st _ = _
    rw [h]
    show (if (xs.map E.e).length < 1000000 then Oc.nx (st.set i (.ol (xs.map E.e ++ [E.e u]))) else .no) = _
    rw [if_pos (by rw [List.length_map]; exact hc), ← hs, List.map_append]
    rfl
  · rw [if_neg hc]; trivial
theorem ss_appI {i : Nat} {x : XE K} {b : XS K} {E : En γ} {xs : List γ} {n : Rs γ} {st1 : List γ → List Sv} {g : List γ → Rs α} {P : α → Oc → Prop} (hi : st[i]? = some (.ol (xs.map E.e))) (h : SV E.v x st n) (hs : ∀ ys : List γ, st.set i (.ol (ys.map E.e)) = st1 ys) (k : ∀ ys, SS b (st1 ys) (g ys) P) : SS (.seq (.app i x) b) st (n.bind fun u => (pushC xs u).bind g) P := by
  cases n with
  | ok u => exact ss_app hi h hs k
  | ex C n =>
    have h : x.ev st = .ex C n := h
    refine ss_xc (st1 := st) ?_ rfl
    show (match st[i]? with
    | some (.ol ds) => (x.ev st).oc st fun a => match a with
      | Vl.d d => if ds.length < 1000000 then Oc.nx (st.set i (.ol (ds ++ [d]))) else .no
      | _ => .no
    | _ => .no) = _
    rw [hi]
    exact oc_xc h
  | no => trivial
def setC (xs : List α) (i : Int) (a : α) : Rs (List α) := match ixN xs.length i with
  | some j => .ok (xs.set j a)
  | none => .no
theorem ss_seti {i : Nat} {kx x : XE K} {b : XS K} {E : En γ} {xs : List γ} {u : γ} {z : Int} {st1 : List γ → List Sv} {g : List γ → Rs α} {P : α → Oc → Prop} (hi : st[i]? = some (.ol (xs.map E.e))) (h : SV E.v x st (.ok u)) (hk : SV eI.v kx st (.ok z)) (hs : ∀ ys : List γ, st.set i (.ol (ys.map E.e)) = st1 ys) (k : ∀ ys, SS b (st1 ys) (g ys) P) : SS (.seq (.seti i kx x) b) st ((setC xs z u).bind g) P := by
  unfold setC
  have h : x.ev st = .ok (E.v u) := h
  have hk : kx.ev st = .ok (eI.v z) := hk
  have hkv : okV (kx.iv st) = some z := by
    show okV ((kx.ev st).bind _) = _
    rw [hk]; rfl
  cases hj : ixN xs.length z with
  | none => trivial
  | some j =>
    refine ss_step (st1 := st1 (xs.set j u)) ?_ (by rw [← hs, List.length_set]) (k _)
    show (match st[i]? with
    | some (.ol ds) => (x.ev st).oc st fun a => match a with
      | Vl.d d => match okV (kx.iv st) with
        | some n => match ixN ds.length n with
          | some j => Oc.nx (st.set i (.ol (ds.set j d)))
          | none => .no
        | none => .no
      | _ => .no
    | _ => .no) = _
    rw [hi]
    show (x.ev st).oc st _ = _
    rw [h]
    show (match okV (kx.iv st) with
        | some n => match ixN (xs.map E.e).length n with
          | some j => Oc.nx (st.set i (.ol ((xs.map E.e).set j (E.e u))))
          | none => .no
        | none => .no) = _
    rw [hkv]
    show (match ixN (xs.map E.e).length z with
          | some j => Oc.nx (st.set i (.ol ((xs.map E.e).set j (E.e u))))
          | none => .no) = _
    rw [List.length_map, hj]
    show Oc.nx _ = _
    rw [← hs, List.map_set]
theorem ss_setiI {i : Nat} {kx x : XE K} {b : XS K} {E : En γ} {xs : List γ} {n : Rs γ} {z : Rs Int} {st1 : List γ → List Sv} {g : List γ → Rs α} {P : α → Oc → Prop} (hi : st[i]? = some (.ol (xs.map E.e))) (h : SV E.v x st n) (hk : SV eI.v kx st z) (hs : ∀ ys : List γ, st.set i (.ol (ys.map E.e)) = st1 ys) (k : ∀ ys, SS b (st1 ys) (g ys) P) : SS (.seq (.seti i kx x) b) st (n.bind fun u => (qu z).bind fun z => (setC xs z u).bind g) P := by
  cases n with
  | ok u =>
    cases z with
    | ok z => exact ss_seti hi h hk hs k
    | ex _ _ => trivial
    | no => trivial
  | ex C n =>
    have h : x.ev st = .ex C n := h
    refine ss_xc (st1 := st) ?_ rfl
    show (match st[i]? with
    | some (.ol ds) => (x.ev st).oc st fun a => match a with
      | Vl.d d => match okV (kx.iv st) with
        | some n => match ixN ds.length n with
          | some j => Oc.nx (st.set i (.ol (ds.set j d)))
          | none => .no
        | none => .no
      | _ => .no
    | _ => .no) = _
    rw [hi]
    exact oc_xc h
  | no => trivial
theorem ss_aug {i : Nat} {o : O2 K} {ho : o.ka = false ∧ o.kb = false} {x : XE K} {b : XS K} {e1 : γ → Vl} {e2 : δ → Vl} {e3 : τ → Vl} {a : γ} {u : δ} {c : τ} {st1 : List Sv} {m : Rs α} {P : α → Oc → Prop} (hi : st[i]? = some (.v (e1 a))) (h : SV e2 x st (.ok u)) (hc : Si (Rs.of (o.f (.v (e1 a)) (.v (e2 u)))) (.ok c) e3)
    (hs : st.set i (.v (e3 c)) = st1) (k : SS b st1 m P) : SS (.seq (.aug i o ho x) b) st m P := by
  have h := Si.okV h rfl
  have hc : Rs.of (o.f (.v (e1 a)) (.v (e2 u))) = .ok (e3 c) := hc
  have hc' : o.f (.v (e1 a)) (.v (e2 u)) = some (e3 c) := by
    cases hh : o.f (.v (e1 a)) (.v (e2 u)) with
    | none => rw [hh] at hc; cases hc
    | some w => rw [hh] at hc; cases hc; rfl
  refine ss_step (st1 := st1) ?_ (by rw [← hs, List.length_set]) k
  show (match st[i]? with
    | some (.v a) => match okV (x.ev st) with
      | some b => match o.f (.v a) (.v b) with
        | some c => Oc.nx (st.set i (.v c))
        | none => .no
      | none => .no
    | _ => .no) = _
  rw [hi]
  show (match okV (x.ev st) with
      | some b => match o.f (.v (e1 a)) (.v b) with
        | some c => Oc.nx (st.set i (.v c))
        | none => .no
      | none => .no) = _
  rw [h]
  show (match o.f (.v (e1 a)) (.v (e2 u)) with
        | some c => Oc.nx (st.set i (.v c))
        | none => .no) = _
  rw [hc']
  show Oc.nx _ = _
  rw [hs]
theorem ss_augI {i : Nat} {o : O2 K} {ho : o.ka = false ∧ o.kb = false} {x : XE K} {b : XS K} {e1 : γ → Vl} {e2 : δ → Vl} {e3 : τ → Vl} {a : γ} {n : Rs δ} {c : δ → τ} {st1 : δ → List Sv} {g : δ → Rs α} {P : α → Oc → Prop} (hi : st[i]? = some (.v (e1 a))) (h : SV e2 x st n) (hc : ∀ u, Si (Rs.of (o.f (.v (e1 a)) (.v (e2 u)))) (.ok (c u)) e3)
    (hs : ∀ u, st.set i (.v (e3 (c u))) = st1 u) (k : ∀ u, SS b (st1 u) (g u) P) : SS (.seq (.aug i o ho x) b) st ((qu n).bind g) P := by
  cases n with
  | ok u => exact ss_aug hi h (hc u) (hs u) (k u)
  | ex _ _ => trivial
  | no => trivial
/-! ends -/
theorem ss_ret {x : XE K} {e : γ → Vl} {u : γ} {a : α} {P : α → Oc → Prop} (h : SV e x st (.ok u)) (hp : P a (.rt (e u))) : SS (.ret x) st (.ok a) P := by
  have h : x.ev st = .ok (e u) := h
  show P a ((x.ev st).oc st .rt)
  rw [h]; exact hp
theorem ss_retI {x : XE K} {e : γ → Vl} {n : Rs γ} {r : γ → α} {P : α → Oc → Prop} (h : SV e x st n) (hp : ∀ u, P (r u) (.rt (e u))) : SS (.ret x) st (n.bind fun u => .ok (r u)) P := by
  cases n with
  | ok u => exact ss_ret h (hp u)
  | ex C n => exact ⟨st, rfl, oc_xc h⟩
  | no => trivial
theorem ss_retM {x : XE K} {e : α → Vl} {n : Rs α} {P : α → Oc → Prop} (h : SV e x st n) (hp : ∀ u, P u (.rt (e u))) : SS (.ret x) st n P := by
  cases n with
  | ok u => exact ss_ret h (hp u)
  | ex C n => exact ⟨st, rfl, oc_xc h⟩
  | no => trivial
theorem ss_retN {a : α} {P : α → Oc → Prop} (hp : P a (.rt (.d .none))) : SS (.retN : XS K) st (.ok a) P := hp
theorem ss_retO {x : XN K} {f : γ → List PyData} {u : γ} {a : α} {P : α → Oc → Prop} (h : SN f x st (.ok u)) (hp : P a (.ro (f u))) : SS (.retO x) st (.ok a) P := by
  have h : x.ev st = .ok (f u) := h
  show P a ((x.ev st).oc st .ro)
  rw [h]; exact hp
theorem ss_retOI {x : XN K} {f : γ → List PyData} {n : Rs γ} {r : γ → α} {P : α → Oc → Prop} (h : SN f x st n) (hp : ∀ u, P (r u) (.ro (f u))) : SS (.retO x) st (n.bind fun u => .ok (r u)) P := by
  cases n with
  | ok u => exact ss_retO h (hp u)
  | ex C n => exact ⟨st, rfl, oc_xc h⟩
  | no => trivial
theorem ss_retOM {x : XN K} {f : α → List PyData} {n : Rs α} {P : α → Oc → Prop} (h : SN f x st n) (hp : ∀ u, P u (.ro (f u))) : SS (.retO x) st n P := by
  cases n with
  | ok u => exact ss_retO h (hp u)
  | ex C n => exact ⟨st, rfl, oc_xc h⟩
  | no => trivial
theorem ss_retV {i : Nat} {ds : List PyData} {a : α} {P : α → Oc → Prop} (h : st[i]? = some (.ol ds)) (hp : P a (.ro ds)) : SS (.retV i : XS K) st (.ok a) P := by
  show P a (match st[i]? with
    | some (.ol ds) => Oc.ro ds
    | _ => .no)
  rw [h]; exact hp
theorem ss_raise {C : Addr} {hC : OexC K C} {hn : PySem.W.findIn K (.ref C) "at" = some none} {x : XE K} {n : Int} {P : α → Oc → Prop} (h : SV eI.v x st (.ok n)) : SS (.raise C hC hn (.cons false x .nil)) st (.ex C n : Rs α) P := by
  have h : x.ev st = .ok (eI.v n) := h
  refine ⟨st, rfl, ?_⟩
  show ((((x.ev st).bind _).bind _).oc st _) = _
  rw [h]; rfl
/-! ways -/
theorem ite_ev {t : XT K} {A B : XS K} {c : Bool} (h : ST t st (.ok c)) : (XS.ite t A B).ev st = if c = true then A.ev st else B.ev st := by
  have h : t.ev st = .ok c := h
  show (t.ev st).oc st _ = _
  rw [h]
  cases c <;> rfl
theorem ite_xc {t : XT K} {A B : XS K} {C : Addr} {n : Int} (h : ST t st (.ex C n)) : (XS.ite t A B).ev st = .xc st C n := oc_xc h
/-- the last statement -/
theorem ss_ite {t : XT K} {A B : XS K} {c : Bool} {m n : Rs α} {P : α → Oc → Prop} (h : ST t st (.ok c)) (hA : SS A st m P) (hB : SS B st n P) : SS (.ite t A B) st (if c = true then m else n) P := by
  have e := ite_ev (A := A) (B := B) h
  cases c with
  | true =>
    rw [if_pos rfl] at e ⊢
    cases m with
    | ok a => show P a _; rw [e]; exact hA
    | ex C n => obtain ⟨st', h1, h2⟩ := hA; exact ⟨st', h1, by rw [e]; exact h2⟩
    | no => trivial
  | false =>
    rw [if_neg (fun z => nomatch z)] at e ⊢
    cases n with
    | ok a => show P a _; rw [e]; exact hB
    | ex C n => obtain ⟨st', h1, h2⟩ := hB; exact ⟨st', h1, by rw [e]; exact h2⟩
    | no => trivial
theorem ss_iteI {t : XT K} {A B : XS K} {k : Rs Bool} {m n : Rs α} {P : α → Oc → Prop} (h : ST t st k) (hA : SS A st m P) (hB : SS B st n P) : SS (.ite t A B) st (k.bind fun c => if c = true then m else n) P := by
  cases k with
  | ok c => exact ss_ite h hA hB
  | ex C n => exact ⟨st, rfl, ite_xc h⟩
  | no => trivial
/-- the way of true leaves the block -/
theorem ss_iteX {t : XT K} {A B b : XS K} {c : Bool} {m n : Rs α} {P : α → Oc → Prop} (h : ST t st (.ok c)) (hA : SS A st m (PX P)) (hB : SS (.seq B b) st n P) : SS (.seq (.ite t A B) b) st (if c = true then m else n) P := by
  have e := ite_ev (A := A) (B := B) h
  cases c with
  | true =>
    rw [if_pos rfl] at e ⊢
    cases m with
    | ok a =>
      obtain ⟨h1, h2⟩ := hA
      show P a _
      rw [seq_x e h2]; exact h1
    | ex C n => obtain ⟨st', h1, h2⟩ := hA; exact ss_xc (e.trans h2) h1
    | no => trivial
  | false =>
    rw [if_neg (fun z => nomatch z)] at e ⊢
    have e2 : (XS.seq (.ite t A B) b).ev st = (XS.seq B b).ev st := by
      show (match (XS.ite t A B).ev st with
    | .nx st' => b.ev st'
    | o => o) = _
      rw [e]; rfl
    cases n with
    | ok a => show P a _; rw [e2]; exact hB
    | ex C n => obtain ⟨st', h1, h2⟩ := hB; exact ⟨st', h1, by rw [e2]; exact h2⟩
    | no => trivial
theorem ss_iteXI {t : XT K} {A B b : XS K} {k : Rs Bool} {m n : Rs α} {P : α → Oc → Prop} (h : ST t st k) (hA : SS A st m (PX P)) (hB : SS (.seq B b) st n P) : SS (.seq (.ite t A B) b) st (k.bind fun c => if c = true then m else n) P := by
  cases k with
  | ok c => exact ss_iteX h hA hB
  | ex C n => exact ss_xc (ite_xc h) rfl
  | no => trivial
/-- the way of false leaves the block -/
theorem ss_iteY {t : XT K} {A B b : XS K} {c : Bool} {m n : Rs α} {P : α → Oc → Prop} (h : ST t st (.ok c)) (hA : SS (.seq A b) st m P) (hB : SS B st n (PX P)) : SS (.seq (.ite t A B) b) st (if c = true then m else n) P := by
  have e := ite_ev (A := A) (B := B) h
  cases c with
  | false =>
    rw [if_neg (fun z => nomatch z)] at e ⊢
    cases n with
    | ok a =>
      obtain ⟨h1, h2⟩ := hB
      show P a _
      rw [seq_x e h2]; exact h1
    | ex C n => obtain ⟨st', h1, h2⟩ := hB; exact ss_xc (e.trans h2) h1
    | no => trivial
  | true =>
    rw [if_pos rfl] at e ⊢
    have e2 : (XS.seq (.ite t A B) b).ev st = (XS.seq A b).ev st := by
      show (match (XS.ite t A B).ev st with
    | .nx st' => b.ev st'
    | o => o) = _
      rw [e]; rfl
    cases m with
    | ok a => show P a _; rw [e2]; exact hA
    | ex C n => obtain ⟨st', h1, h2⟩ := hA; exact ⟨st', h1, by rw [e2]; exact h2⟩
    | no => trivial
theorem ss_iteYI {t : XT K} {A B b : XS K} {k : Rs Bool} {m n : Rs α} {P : α → Oc → Prop} (h : ST t st k) (hA : SS (.seq A b) st m P) (hB : SS B st n (PX P)) : SS (.seq (.ite t A B) b) st (k.bind fun c => if c = true then m else n) P := by
  cases k with
  | ok c => exact ss_iteY h hA hB
  | ex C n => exact ss_xc (ite_xc h) rfl
  | no => trivial
/-- an empty way -/
theorem ss_nxS {b : XS K} {m : Rs α} {P : α → Oc → Prop} (h : SS b st m P) : SS (.seq .nx b) st m P := ss_step rfl rfl h
/-- two blocks, one behind the other -/
theorem ss_assoc {a b c : XS K} {m : Rs α} {P : α → Oc → Prop} (h : SS (.seq a (.seq b c)) st m P) : SS (.seq (.seq a b) c) st m P := by
  have e : (XS.seq (.seq a b) c).ev st = (XS.seq a (.seq b c)).ev st := by
    show (match (match a.ev st with
    | .nx st' => b.ev st'
    | o => o) with
    | .nx st' => c.ev st'
    | o => o) = (match a.ev st with
    | .nx st' => (match b.ev st' with
    | .nx st' => c.ev st'
    | o => o)
    | o => o)
    cases a.ev st <;> rfl
  cases m with
  | ok x => show P x _; rw [e]; exact h
  | ex C n => obtain ⟨st', h1, h2⟩ := h; exact ⟨st', h1, by rw [e]; exact h2⟩
  | no => trivial
end
end R

set_option Elab.async false
set_option linter.all false
set_option maxRecDepth 100000
set_option maxHeartbeats 2000000
/-! M4: loops, tries, making objects. -/
namespace R
open PySem PySem.Spec PyProof.Rows L2 Z
section
variable {K : PySem.W.Frag} {α β γ δ τ σ : Type} {st : List Sv}
def SSo (o : Oc) (n : Nat) (m : Rs α) (P : α → Oc → Prop) : Prop := match m with
  | .ok a => P a o
  | .ex C k => ∃ st', st'.length = n ∧ o = .xc st' C k
  | .no => True
def forR (f : α → σ → Rs σ) : List α → σ → Rs σ
  | [], s => .ok s
  | x :: xs, s => (f x s).bind fun s => forR f xs s
def forJ (f : α → σ → Rs (LO σ β)) : List α → σ → Rs (J σ β)
  | [], s => .ok (.nx s)
  | x :: xs, s => (f x s).bind fun j => match j with
    | .nx s => forJ f xs s
    | .bk s => .ok (.nx s)
    | .ex a => .ok (.ex a)
theorem lp_cons {g : XG K} {b : XS K} {d : PyData} {ds : List PyData} {st1 : List Sv} (h : g.ev d st = some st1) : lp g b (d :: ds) st = match b.ev st1 with
      | .nx st2 => lp g b ds st2
      | .ct st2 => lp g b ds st2
      | .bk st2 => .nx st2
      | o => o := by
  rw [lp, h]
  all_goals rfl
theorem lp_forR {g : XG K} {b : XS K} {F : α → PyData} {f : α → σ → Rs σ} {es : σ → List Sv} {n : Nat} (hb : ∀ x s, ∃ st1, g.ev (F x) (es s) = some st1 ∧ st1.length = n ∧ SS b st1 (f x s) (PC es)) : ∀ (xs : List α) (s : σ), SSo (lp g b (xs.map F) (es s)) n (forR f xs s) (PN es)
  | [], s => rfl
  | x :: xs, s => by
    obtain ⟨st1, h1, hl, h2⟩ := hb x s
    rw [List.map_cons, lp_cons h1, forR]
    cases hf : f x s with
    | no => trivial
    | ex C k =>
      rw [hf] at h2
      obtain ⟨st', e1, e2⟩ := h2
      rw [e2]
      exact ⟨st', e1.trans hl, rfl⟩
    | ok s2 =>
      rw [hf] at h2
      have ih := lp_forR hb xs s2
      rcases h2 with h2 | h2 <;> rw [h2] <;> exact ih
theorem lp_forJ {g : XG K} {b : XS K} {F : α → PyData} {f : α → σ → Rs (LO σ β)} {es : σ → List Sv} {n : Nat} {P : β → Oc → Prop} (hb : ∀ x s, ∃ st1, g.ev (F x) (es s) = some st1 ∧ st1.length = n ∧ SS b st1 (f x s) (PL es P)) : ∀ (xs : List α) (s : σ), SSo (lp g b (xs.map F) (es s)) n (forJ f xs s) (PJ es P)
  | [], s => rfl
  | x :: xs, s => by
    obtain ⟨st1, h1, hl, h2⟩ := hb x s
    rw [List.map_cons, lp_cons h1, forJ]
    cases hf : f x s with
    | no => trivial
    | ex C k =>
      rw [hf] at h2
      obtain ⟨st', e1, e2⟩ := h2
      rw [e2]
      exact ⟨st', e1.trans hl, rfl⟩
    | ok j =>
      rw [hf] at h2
      cases j with
      | nx s2 =>
        have ih := lp_forJ hb xs s2
        have h2 : b.ev st1 = .nx (es s2) ∨ b.ev st1 = .ct (es s2) := h2
        rcases h2 with h2 | h2 <;> rw [h2] <;> exact ih
      | bk s2 =>
        have h2 : b.ev st1 = .bk (es s2) := h2
        rw [h2]; exact rfl
      | ex a =>
        obtain ⟨h3, h4⟩ := h2
        show P a _ ∧ _
        cases ho : b.ev st1 with
        | rt _ => rw [ho] at h3; exact ⟨h3, rfl⟩
        | ro _ => rw [ho] at h3; exact ⟨h3, rfl⟩
        | _ => rw [ho] at h4; cases h4
theorem for_ev {it : XI K} {g : XG K} {b : XS K} {xs : List PyData} (h : it.ev st = .ok xs) : (XS.for_ it g b).ev st = lp g b xs st := by
  show (it.ev st).oc st _ = _
  rw [h]; rfl
theorem ss_forR {it : XI K} {tg : XG K} {b rest : XS K} {F : α → PyData} {f : α → σ → Rs σ} {es : σ → List Sv} {xs : List α} {s0 : σ} {g : σ → Rs β} {P : β → Oc → Prop} (hi : SI (List.map F) it st (.ok xs)) (h0 : es s0 = st) (hl : ∀ s, (es s).length = st.length)
    (hb : ∀ x s, ∃ st1, tg.ev (F x) (es s) = some st1 ∧ st1.length = st.length ∧ SS b st1 (f x s) (PC es)) (k : ∀ s, SS rest (es s) (g s) P) : SS (.seq (.for_ it tg b) rest) st ((forR f xs s0).bind g) P := by
  have hi : it.ev st = .ok (xs.map F) := hi
  refine ss_seq (es := es) ?_ hl k
  have := lp_forR hb xs s0
  rw [h0] at this
  have e := for_ev (g := tg) (b := b) hi
  cases hf : forR f xs s0 with
  | no => trivial
  | ok s => rw [hf] at this; exact e.trans this
  | ex C n => rw [hf] at this; obtain ⟨st', h1, h2⟩ := this; exact ⟨st', h1, e.trans h2⟩
theorem ss_forRI {it : XI K} {tg : XG K} {b rest : XS K} {F : α → PyData} {f : α → σ → Rs σ} {es : σ → List Sv} {m : Rs (List α)} {s0 : σ} {g : σ → Rs β} {P : β → Oc → Prop} (hi : SI (List.map F) it st m) (h0 : es s0 = st) (hl : ∀ s, (es s).length = st.length)
    (hb : ∀ x s, ∃ st1, tg.ev (F x) (es s) = some st1 ∧ st1.length = st.length ∧ SS b st1 (f x s) (PC es)) (k : ∀ s, SS rest (es s) (g s) P) : SS (.seq (.for_ it tg b) rest) st (m.bind fun xs => (forR f xs s0).bind g) P := by
  cases m with
  | ok xs => exact ss_forR hi h0 hl hb k
  | ex C n => exact ss_xc (oc_xc hi) rfl
  | no => trivial
theorem ss_forJ {it : XI K} {tg : XG K} {b rest : XS K} {F : α → PyData} {f : α → σ → Rs (LO σ β)} {es : σ → List Sv} {xs : List α} {s0 : σ} {g : σ → Rs β} {P : β → Oc → Prop} (hi : SI (List.map F) it st (.ok xs)) (h0 : es s0 = st) (hl : ∀ s, (es s).length = st.length)
    (hb : ∀ x s, ∃ st1, tg.ev (F x) (es s) = some st1 ∧ st1.length = st.length ∧ SS b st1 (f x s) (PL es P)) (k : ∀ s, SS rest (es s) (g s) P) : SS (.seq (.for_ it tg b) rest) st (bindJ (forJ f xs s0) g) P := by
  have hi : it.ev st = .ok (xs.map F) := hi
  refine ss_seqJ (es := es) ?_ hl k
  have := lp_forJ hb xs s0
  rw [h0] at this
  have e := for_ev (g := tg) (b := b) hi
  cases hf : forJ f xs s0 with
  | no => trivial
  | ok s => rw [hf] at this; show PJ es P s _; rw [e]; exact this
  | ex C n => rw [hf] at this; obtain ⟨st', h1, h2⟩ := this; exact ⟨st', h1, e.trans h2⟩
theorem ss_forJI {it : XI K} {tg : XG K} {b rest : XS K} {F : α → PyData} {f : α → σ → Rs (LO σ β)} {es : σ → List Sv} {m : Rs (List α)} {s0 : σ} {g : σ → Rs β} {P : β → Oc → Prop} (hi : SI (List.map F) it st m) (h0 : es s0 = st) (hl : ∀ s, (es s).length = st.length)
    (hb : ∀ x s, ∃ st1, tg.ev (F x) (es s) = some st1 ∧ st1.length = st.length ∧ SS b st1 (f x s) (PL es P)) (k : ∀ s, SS rest (es s) (g s) P) : SS (.seq (.for_ it tg b) rest) st (m.bind fun xs => bindJ (forJ f xs s0) g) P := by
  cases m with
  | ok xs => exact ss_forJ hi h0 hl hb k
  | ex C n => exact ss_xc (oc_xc hi) rfl
  | no => trivial
/-! while -/
def wl (t : XT K) (b : XS K) : Nat → List Sv → Oc
  | 0, _ => .no
  | n + 1, st => match t.ev st with
    | .ok true => (match b.ev st with
      | .nx s => wl t b n s
      | .ct s => wl t b n s
      | .bk s => .nx s
      | o => o)
    | .ok false => .nx st
    | _ => .no
theorem wl_mono {t : XT K} {b : XS K} : ∀ (n : Nat) (st : List Sv), wl t b n st ≠ .no → ∀ k, wl t b (n + k) st = wl t b n st
  | 0, st, h, k => absurd rfl h
  | n + 1, st, h, k => by
    rw [Nat.add_right_comm]
    unfold wl at h ⊢
    cases ht : t.ev st with
    | ok c =>
      rw [ht] at h
      cases c with
      | false => rfl
      | true =>
        simp only at h ⊢
        cases hb : b.ev st with
        | nx s => rw [hb] at h; exact wl_mono n s h k
        | ct s => rw [hb] at h; exact wl_mono n s h k
        | _ => rfl
    | ex _ _ => rfl
    | no => rfl
open Classical in
noncomputable def wlv (t : XT K) (b : XS K) (st : List Sv) : Oc := if h : ∃ n, wl t b n st ≠ .no then wl t b (choose h) st else .no
theorem wlv_of {t : XT K} {b : XS K} {n : Nat} (h : wl t b n st ≠ .no) : wlv t b st = wl t b n st := by
  unfold wlv
  have hx : ∃ n, wl t b n st ≠ .no := ⟨n, h⟩
  rw [dif_pos hx]
  have h2 := Classical.choose_spec hx
  rcases Nat.le_total n (Classical.choose hx) with z | z
  · have := wl_mono n st h (Classical.choose hx - n)
    rw [Nat.add_sub_cancel' z] at this
    exact this
  · have := wl_mono _ st h2 (n - Classical.choose hx)
    rw [Nat.add_sub_cancel' z] at this
    exact this.symm
theorem wlv_ex {t : XT K} {b : XS K} (h : wlv t b st ≠ .no) : ∃ n, wl t b n st ≠ .no ∧ wlv t b st = wl t b n st := by
  by_cases hx : ∃ n, wl t b n st ≠ .no
  · obtain ⟨n, hn⟩ := hx
    exact ⟨n, hn, wlv_of hn⟩
  · unfold wlv at h
    rw [dif_neg hx] at h
    exact absurd rfl h
theorem wl_run {t : XT K} {b : XS K} {md : Md} {W : WX} (w : md.fits W) {O : Oc} (hO : O ≠ .no) (hx : md.loud = true ∨ ∀ s C n, O ≠ .xc s C n) {n : Nat} (h : wl t b n st = O) : Ex W (tWhile (t.tt md) (b.ts md)) (sls K st) (lpO K O) := by
  refine ExS.ex ?_
  refine ExS.whileI (S := fun o' => o' = lpO K O) (fun s : Nat × List Sv => sls K s.2) (fun s => wl t b s.1 s.2 = O) (fun s => s.1) (fun s => match t.ev s.2 with
    | .ok c => c
    | _ => false) (s0 := (n, st)) (Wk.refl _) h ?_ ?_ ?_
  · rintro ⟨n, s⟩ hi
    have ht := t.ok md s
    cases n with
    | zero => exact absurd hi.symm hO
    | succ n =>
      simp only at hi ⊢
      unfold wl at hi
      cases he : t.ev s with
      | ok c => rw [he] at ht; exact ht
      | ex _ _ => rw [he] at hi; exact absurd hi.symm hO
      | no => rw [he] at hi; exact absurd hi.symm hO
  · rintro ⟨n, s⟩ hi hb
    cases n with
    | zero => exact absurd hi.symm hO
    | succ n =>
      simp only at hi hb ⊢
      unfold wl at hi
      cases he : t.ev s with
      | ex _ _ => rw [he] at hi; exact absurd hi.symm hO
      | no => rw [he] at hi; exact absurd hi.symm hO
      | ok c =>
        rw [he] at hi hb
        simp only at hb
        subst hb
        simp only at hi
        have hk := b.ok md W s w
        cases hbv : b.ev s with
        | no => rw [hbv] at hi; exact absurd hi.symm hO
        | nx s2 => rw [hbv] at hi hk; exact ExS.of (Ex.go hk) (.inl ⟨(n, s2), hi, Nat.lt_succ_self n, rfl⟩)
        | ct s2 => rw [hbv] at hi hk; exact ExS.of (Ex.goc hk) (.inl ⟨(n, s2), hi, Nat.lt_succ_self n, rfl⟩)
        | bk s2 => rw [hbv] at hi hk; exact ExS.of hk (.inr ⟨rfl, by rw [← hi]; rfl⟩)
        | rt a => rw [hbv] at hi hk; exact ExS.of hk (.inr ⟨rfl, by rw [← hi]; rfl⟩)
        | ro a => rw [hbv] at hi hk; exact ExS.of hk (.inr ⟨rfl, by rw [← hi]; rfl⟩)
        | xc s2 C k =>
          rw [hbv] at hi hk
          have l : md.loud = true := hx.resolve_right fun z => z _ _ _ hi.symm
          exact ExS.of (hk l) (.inr ⟨rfl, by rw [← hi]; rfl⟩)
  · rintro ⟨n, s⟩ hi hb
    cases n with
    | zero => exact absurd hi.symm hO
    | succ n =>
      simp only at hi hb ⊢
      unfold wl at hi
      cases he : t.ev s with
      | ex _ _ => rw [he] at hi; exact absurd hi.symm hO
      | no => rw [he] at hi; exact absurd hi.symm hO
      | ok c =>
        rw [he] at hi hb
        simp only at hb
        subst hb
        simp only at hi
        rw [← hi]; rfl
noncomputable def XS.while_ (t : XT K) (b : XS K) : XS K where
  ts := fun md => tWhile (t.tt md) (b.ts md)
  ev := fun st => wlv t b st
  ok := fun md W st w => by
    show OcOk K md W _ _ (wlv t b st)
    by_cases hno : wlv t b st = .no
    · rw [hno]; trivial
    · obtain ⟨n, h1, h2⟩ := wlv_ex hno
      by_cases hl : md.loud = true ∨ ∀ s C n, wlv t b st ≠ .xc s C n
      · have main := wl_run w hno hl h2.symm
        cases he : wlv t b st with
        | no => trivial
        | xc s C n => rw [he] at main; exact fun _ => main
        | nx s => rw [he] at main; exact main
        | rt s => rw [he] at main; exact main
        | ro s => rw [he] at main; exact main
        | bk s => rw [he] at main; exact main
        | ct s => rw [he] at main; exact main
      · cases he : wlv t b st with
        | xc s C n => exact fun l => absurd (.inl l) hl
        | no => trivial
        | nx s => exact absurd (.inr (by rw [he]; exact fun _ _ _ z => nomatch z)) hl
        | rt s => exact absurd (.inr (by rw [he]; exact fun _ _ _ z => nomatch z)) hl
        | ro s => exact absurd (.inr (by rw [he]; exact fun _ _ _ z => nomatch z)) hl
        | bk s => exact absurd (.inr (by rw [he]; exact fun _ _ _ z => nomatch z)) hl
        | ct s => exact absurd (.inr (by rw [he]; exact fun _ _ _ z => nomatch z)) hl
def whN (c : σ → Rs Bool) (f : σ → Rs (LO σ β)) : Nat → σ → Rs (J σ β)
  | 0, _ => .no
  | n + 1, s => (qu (c s)).bind fun k => if k = true then (f s).bind fun j => match j with
    | .nx s => whN c f n s
    | .bk s => .ok (.nx s)
    | .ex a => .ok (.ex a) else .ok (.nx s)
open Classical in
noncomputable def whJ (c : σ → Rs Bool) (f : σ → Rs (LO σ β)) (s : σ) : Rs (J σ β) := if h : ∃ n, whN c f n s ≠ .no then whN c f (choose h) s else .no
theorem bind_ne {m : Rs α} {f : α → Rs β} (h : m.bind f ≠ .no) : m ≠ .no := by
  intro z
  rw [z] at h
  exact h rfl
theorem whN_mono {c : σ → Rs Bool} {f : σ → Rs (LO σ β)} : ∀ (n : Nat) (s : σ), whN c f n s ≠ .no → ∀ k, whN c f (n + k) s = whN c f n s
  | 0, s, h, k => absurd rfl h
  | n + 1, s, h, k => by
    rw [Nat.add_right_comm]
    unfold whN at h ⊢
    cases hc : c s with
    | ex _ _ => rfl
    | no => rfl
    | ok b =>
      rw [hc] at h
      cases b with
      | false => rfl
      | true =>
        show (f s).bind _ = (f s).bind _
        have h : (f s).bind _ ≠ .no := h
        cases hf : f s with
        | ex _ _ => rfl
        | no => rfl
        | ok j =>
          rw [hf] at h
          cases j with
          | nx s2 => exact whN_mono n s2 h k
          | bk _ => rfl
          | ex _ => rfl
theorem whJ_of {c : σ → Rs Bool} {f : σ → Rs (LO σ β)} {n : Nat} {s : σ} {r : Rs (J σ β)} (h : whN c f n s = r) (hr : r ≠ .no) : whJ c f s = r := by
  have h0 : whN c f n s ≠ .no := by rw [h]; exact hr
  unfold whJ
  have hx : ∃ n, whN c f n s ≠ .no := ⟨n, h0⟩
  rw [dif_pos hx]
  have h2 := Classical.choose_spec hx
  rcases Nat.le_total n (Classical.choose hx) with z | z
  · have := whN_mono n s h0 (Classical.choose hx - n)
    rw [Nat.add_sub_cancel' z] at this
    exact this.trans h
  · have := whN_mono _ s h2 (n - Classical.choose hx)
    rw [Nat.add_sub_cancel' z] at this
    exact this.symm.trans h
/-- one turn -/
theorem whJ_step {c : σ → Rs Bool} {f : σ → Rs (LO σ β)} {s s2 : σ} {r : Rs (J σ β)} (h : c s = .ok true) (hf : f s = .ok (.nx s2)) (k : whJ c f s2 = r) (hr : r ≠ .no) : whJ c f s = r := by
  unfold whJ at k
  by_cases hx : ∃ n, whN c f n s2 ≠ .no
  · rw [dif_pos hx] at k
    refine whJ_of (n := Classical.choose hx + 1) ?_ hr
    unfold whN
    rw [h, hf]
    exact k
  · rw [dif_neg hx] at k
    exact absurd k.symm hr
theorem whJ_stop {c : σ → Rs Bool} {f : σ → Rs (LO σ β)} {s : σ} (h : c s = .ok false) : whJ c f s = .ok (.nx s) := whJ_of (n := 1) (by unfold whN; rw [h]; rfl) (fun z => nomatch z)
theorem whJ_brk {c : σ → Rs Bool} {f : σ → Rs (LO σ β)} {s s2 : σ} (h : c s = .ok true) (hf : f s = .ok (.bk s2)) : whJ c f s = .ok (.nx s2) := whJ_of (n := 1) (by unfold whN; rw [h, hf]; rfl) (fun z => nomatch z)
theorem whJ_ret {c : σ → Rs Bool} {f : σ → Rs (LO σ β)} {s : σ} {a : β} (h : c s = .ok true) (hf : f s = .ok (.ex a)) : whJ c f s = .ok (.ex a) := whJ_of (n := 1) (by unfold whN; rw [h, hf]; rfl) (fun z => nomatch z)
/-- a while with an invariant and a measure -/
theorem whJ_inv {c : σ → Rs Bool} {f : σ → Rs (LO σ β)} (I : σ → Prop) (μ : σ → Nat) (Q : J σ β → Prop) (hs : ∀ s, I s → (c s = .ok false ∧ Q (.nx s)) ∨ (c s = .ok true ∧ ((∃ s2, f s = .ok (.nx s2) ∧ I s2 ∧ μ s2 < μ s) ∨ (∃ s2, f s = .ok (.bk s2) ∧ Q (.nx s2)) ∨ ∃ a, f s = .ok (.ex a) ∧ Q (.ex a)))) :
    ∀ (n : Nat) (s : σ), μ s < n → I s → ∃ j, whJ c f s = .ok j ∧ Q j
  | 0, s, h, _ => absurd h (Nat.not_lt_zero _)
  | n + 1, s, h, hi => by
    rcases hs s hi with ⟨h1, h2⟩ | ⟨h1, ⟨s2, h2, h3, h4⟩ | ⟨s2, h2, h3⟩ | ⟨a, h2, h3⟩⟩
    · exact ⟨_, whJ_stop h1, h2⟩
    · obtain ⟨j, hj, hq⟩ := whJ_inv I μ Q hs n s2 (by omega) h3
      exact ⟨j, whJ_step h1 h2 hj (fun z => nomatch z), hq⟩
    · exact ⟨_, whJ_brk h1 h2, h3⟩
    · exact ⟨_, whJ_ret h1 h2, h3⟩
theorem wl_whN {t : XT K} {b : XS K} {c : σ → Rs Bool} {f : σ → Rs (LO σ β)} {es : σ → List Sv} {n : Nat} {P : β → Oc → Prop} (hl : ∀ s, (es s).length = n) (ht : ∀ s, ST t (es s) (c s)) (hb : ∀ s, SS b (es s) (f s) (PL es P)) : ∀ (k : Nat) (s : σ), SSo (wl t b k (es s)) n (whN c f k s) (PJ es P)
  | 0, s => trivial
  | k + 1, s => by
    unfold wl whN
    have h1 := ht s
    cases hc : c s with
    | no => trivial
    | ex _ _ => trivial
    | ok q =>
      rw [hc] at h1
      have h1 : t.ev (es s) = .ok q := h1
      rw [h1]
      cases q with
      | false => exact rfl
      | true =>
        have h2 := hb s
        show SSo (match b.ev (es s) with
          | .nx s => wl t b k s
          | .ct s => wl t b k s
          | .bk s => .nx s
          | o => o) n ((f s).bind _) _
        cases hf : f s with
        | no => trivial
        | ex C m =>
          rw [hf] at h2
          obtain ⟨st', e1, e2⟩ := h2
          rw [e2]
          exact ⟨st', e1.trans (hl s), rfl⟩
        | ok j =>
          rw [hf] at h2
          cases j with
          | nx s2 =>
            have ih := wl_whN hl ht hb k s2
            have h2 : b.ev (es s) = .nx (es s2) ∨ b.ev (es s) = .ct (es s2) := h2
            rcases h2 with h2 | h2 <;> rw [h2] <;> exact ih
          | bk s2 =>
            have h2 : b.ev (es s) = .bk (es s2) := h2
            rw [h2]; exact rfl
          | ex a =>
            obtain ⟨h3, h4⟩ := h2
            show P a _ ∧ _
            cases ho : b.ev (es s) with
            | rt _ => rw [ho] at h3; exact ⟨h3, rfl⟩
            | ro _ => rw [ho] at h3; exact ⟨h3, rfl⟩
            | _ => rw [ho] at h4; cases h4
theorem sso_ne {o : Oc} {n : Nat} {m : Rs (J σ β)} {es : σ → List Sv} {P : β → Oc → Prop} (h : SSo o n m (PJ es (fun a o => P a o ∧ o.isRet = true))) (hm : m ≠ .no) : o ≠ .no := by
  cases m with
  | no => exact absurd rfl hm
  | ex C k => obtain ⟨st', _, e⟩ := h; rw [e]; exact fun z => nomatch z
  | ok j =>
    cases j with
    | nx s => have h : o = .nx (es s) := h; rw [h]; exact fun z => nomatch z
    | ex a => obtain ⟨⟨_, h2⟩, _⟩ := h; intro z; rw [z] at h2; cases h2
theorem ss_while {t : XT K} {b rest : XS K} {c : σ → Rs Bool} {f : σ → Rs (LO σ β)} {es : σ → List Sv} {s0 : σ} {g : σ → Rs β} {P : β → Oc → Prop} (h0 : es s0 = st) (hl : ∀ s, (es s).length = st.length) (ht : ∀ s, ST t (es s) (c s)) (hb : ∀ s, SS b (es s) (f s) (PL es P)) (k : ∀ s, SS rest (es s) (g s) P) : SS (.seq (.while_ t b) rest) st (bindJ (whJ c f s0) g) P := by
  refine ss_seqJ (es := es) ?_ hl k
  by_cases hx : ∃ n, whN c f n s0 ≠ .no
  · obtain ⟨n, hn⟩ := hx
    rw [whJ_of (n := n) rfl hn]
    have hb' : ∀ s, SS b (es s) (f s) (PL es (fun a o => P a o ∧ o.isRet = true)) := fun s => by
      have := hb s
      cases hf : f s with
      | no => trivial
      | ex C m => rw [hf] at this; exact this
      | ok j =>
        rw [hf] at this
        cases j with
        | nx _ => exact this
        | bk _ => exact this
        | ex a => exact ⟨this, this.2⟩
    have h1 := wl_whN hl ht hb' n s0
    have h2 := wlv_of (sso_ne h1 hn)
    rw [h0] at h1 h2
    have e : (XS.while_ t b).ev st = wl t b n st := h2
    cases hm : whN c f n s0 with
    | no => trivial
    | ex C m => rw [hm] at h1; obtain ⟨st', e1, e2⟩ := h1; exact ⟨st', e1, e.trans e2⟩
    | ok j =>
      rw [hm] at h1
      show PJ es P j _
      rw [e]
      cases j with
      | nx s => exact h1
      | ex a => exact ⟨h1.1.1, h1.2⟩
  · unfold whJ
    rw [dif_neg hx]
    trivial
/-! tries -/
def tryJ (m : Rs α) (H : Addr → Int → Rs α) : Rs α := match m with
  | .ex C n => H C n
  | r => r
/-- a suite that ends in a return, told by its mirror -/
def XH.ofM {α : Type} (i n0 : Nat) (suite : Addr → Value → Option Addr → XS K) (M : Addr → Int → Rs α) (e : α → Vl) (h : ∀ (a d C : Addr) (n : Int) (st : List Sv), n0 ≤ st.length → SS (suite a (.ref C) (some d)) (st.set i (.er a d n)) (M C n) (fun v o => o = .rt (e v))) : XH K i where
  ts := fun a cls d => (suite a cls d).ts .qu
  ev := fun C n st => if n0 ≤ st.length then (match M C n with
    | .ok v => .rt (e v)
    | _ => .no) else .no
  ok := fun W a d C n st => by
    have := (suite a (.ref C) (some d)).ok .qu W (st.set i (.er a d n)) trivial
    rw [sls_set] at this
    by_cases hn : n0 ≤ st.length
    · rw [if_pos hn]
      have hs := h a d C n st hn
      cases hM : M C n with
      | ok v =>
        rw [hM] at hs
        have hs : (suite a (.ref C) (some d)).ev (st.set i (.er a d n)) = .rt (e v) := hs
        rw [hs] at this
        exact this
      | ex _ _ => trivial
      | no => trivial
    · rw [if_neg hn]; trivial
def hndM (K : PySem.W.Frag) (cW C : Addr) (m : Rs β) (f : β → α) : Rs (J τ α) := if PySem.W.exmOne K (.ref C) (.ref cW) = some true then (qu m).bind fun a => .ok (.ex (f a)) else .no
theorem ss_try {i n0 : Nat} {cW : Addr} {b rest : XS K} {suite : Addr → Value → Option Addr → XS K} {M : Addr → Int → Rs β} {e : β → Vl} {hM : ∀ (a d C : Addr) (n : Int) (st : List Sv), n0 ≤ st.length → SS (suite a (.ref C) (some d)) (st.set i (.er a d n)) (M C n) (fun v o => o = .rt (e v))} {f : β → α} {mb : Rs (J τ α)} {es : τ → List Sv} {g : τ → Rs α} {P : α → Oc → Prop} (h : SS b st mb (PJ es (fun a o => P a o ∧ o.isRet = true))) (hl : ∀ t, (es t).length = st.length)
    (hp : ∀ v, P (f v) (.rt (e v))) (hi : Nat.ble n0 st.length = true) (k : ∀ t, SS rest (es t) (g t) P) : SS (.seq (.try_ i cW b (XH.ofM i n0 suite M e hM)) rest) st (bindJ (tryJ mb fun C n => hndM K cW C (M C n) f) g) P := by
  refine ss_seqJ (es := es) ?_ hl k
  cases mb with
  | no => trivial
  | ok j =>
    show PJ es P j (match b.ev st with
    | .xc st1 C n => if PySem.W.exmOne K (.ref C) (.ref cW) = some true then clr i ((XH.ofM i n0 suite M e hM).ev C n st1) else .no
    | o => o)
    cases j with
    | nx t => have h : b.ev st = .nx (es t) := h; rw [h]; exact rfl
    | ex a =>
      obtain ⟨⟨h1, h2⟩, _⟩ := h
      cases ho : b.ev st with
      | rt v => rw [ho] at h1; exact ⟨h1, rfl⟩
      | ro v => rw [ho] at h1; exact ⟨h1, rfl⟩
      | _ => rw [ho] at h2; cases h2
  | ex C n =>
    obtain ⟨st1, e1, e2⟩ := h
    have hn : n0 ≤ st1.length := by rw [e1]; exact Nat.le_of_ble_eq_true hi
    have ev : (XS.try_ i cW b (XH.ofM i n0 suite M e hM)).ev st = if PySem.W.exmOne K (.ref C) (.ref cW) = some true then clr i (match M C n with
    | .ok v => .rt (e v)
    | _ => .no) else .no := by
      show (match b.ev st with
    | .xc st1 C n => if PySem.W.exmOne K (.ref C) (.ref cW) = some true then clr i (if n0 ≤ st1.length then (match M C n with
    | .ok v => Oc.rt (e v)
    | _ => .no) else .no) else .no
    | o => o) = _
      rw [e2]
      show (if PySem.W.exmOne K (.ref C) (.ref cW) = some true then clr i (if n0 ≤ st1.length then _ else _) else _) = _
      rw [if_pos hn]
    show SS _ st (hndM K cW C (M C n) f) _
    unfold hndM
    by_cases hm : PySem.W.exmOne K (.ref C) (.ref cW) = some true
    · rw [if_pos hm] at ev ⊢
      cases hH : M C n with
      | no => trivial
      | ex _ _ => trivial
      | ok a =>
        show P (f a) _ ∧ _
        rw [ev, hH]
        exact ⟨hp a, rfl⟩
    · rw [if_neg hm] at ev ⊢
      trivial
theorem sv_errAt {i : Nat} {a d C : Addr} {kn : List Addr} {hk : ∀ C ∈ kn, XfC K C ∧ PySem.W.findIn K (.ref C) "at" = some none} {n : Int} (hi : st[i]? = some (.er a d n)) : SV eI.v (.errAt i a (.ref C) (some d) kn hk : XE K) st (grd (C ∈ kn) (.ok n)) := si_grd fun h => by
  show (match (Value.ref C : Value), (some d : Option Addr), st[i]? with
    | .ref C, some d', some (.er a' d'' n) => if (a' = a ∧ d'' = d') ∧ C ∈ kn then Rs.ok (Vl.d (.int n)) else .no
    | _, _, _ => .no) = _
  rw [hi]
  show (if (a = a ∧ d = d) ∧ C ∈ kn then Rs.ok (Vl.d (.int n)) else .no) = _
  rw [if_pos ⟨⟨rfl, rfl⟩, h⟩]
  rfl
def isXC (K : PySem.W.Frag) (kn : List Addr) (C D : Addr) : Rs Bool := grd (C ∈ kn) (Rs.of (PySem.W.kitOne K (.ref C) (.ref D)))
theorem sv_isX {i : Nat} {a d C D : Addr} {kn : List Addr} {hk : ∀ C ∈ kn, ExcC K C} {n : Int} (hi : st[i]? = some (.er a d n)) : SV eB.v (.isX i a (.ref C) (some d) D kn hk : XE K) st (isXC K kn C D) := si_grd fun h => by
  show Si (match (Value.ref C : Value), (some d : Option Addr), st[i]? with
    | .ref C, some d', some (.er a' d'' n) => if (a' = a ∧ d'' = d') ∧ C ∈ kn then Rs.of ((PySem.W.kitOne K (.ref C) (.ref D)).map fun b => Vl.d (.bool b)) else .no
    | _, _, _ => .no) _ _
  rw [hi]
  show Si (if (a = a ∧ d = d) ∧ C ∈ kn then Rs.of ((PySem.W.kitOne K (.ref C) (.ref D)).map fun b => Vl.d (.bool b)) else .no) _ _
  rw [if_pos ⟨⟨rfl, rfl⟩, h⟩]
  cases PySem.W.kitOne K (.ref C) (.ref D) with
  | none => trivial
  | some b => exact rfl
/-! making objects -/
theorem EqV.inj {E : En α} [h : EqV E] {a b : α} (e : E.e a = E.e b) : a = b := (h.iff a b).mp (by rw [e]; exact (h.iff b b).mpr rfl)
def Rs.map (f : α → β) : Rs α → Rs β
  | .ok a => .ok (f a)
  | .ex C n => .ex C n
  | .no => .no
open Classical in
noncomputable def FnI.of (m : Nat) (dec : τ → List Av) (M : τ → Rs σ) (fs : σ → List (Str × PyData)) : FnI := ⟨m, fun as => if h : ∃ t, dec t = as then (M (choose h)).map fs else .no⟩
theorem FnI.of_si {m : Nat} {dec : τ → List Av} {M : τ → Rs σ} {fs : σ → List (Str × PyData)} (inj : ∀ t t', dec t = dec t' → t = t') (t : τ) : Si ((FnI.of m dec M fs).f (dec t)) (M t) fs := by
  have hx : ∃ t', dec t' = dec t := ⟨t, rfl⟩
  have e : (FnI.of m dec M fs).f (dec t) = (M (Classical.choose hx)).map fs := dif_pos hx
  rw [e, inj _ _ (Classical.choose_spec hx)]
  cases M t with
  | ok a => exact rfl
  | ex _ _ => exact rfl
  | no => trivial
theorem FnI.of_run {m : Nat} {dec : τ → List Av} {M : τ → Rs σ} {fs : σ → List (Str × PyData)} {s : XS K} {C : Addr} {k : Nat} (hr : ∀ t a, Si (runI s C a k (dec t)) (M t) fs) (xs : List Av) (hn : (FnI.of m dec M fs).f xs ≠ .no) (a : Addr) : runI s C a k xs = (FnI.of m dec M fs).f xs := by
  by_cases hx : ∃ t, dec t = xs
  · have e : (FnI.of m dec M fs).f xs = (M (Classical.choose hx)).map fs := dif_pos hx
    rw [e] at hn ⊢
    have h1 := hr (Classical.choose hx) a
    rw [Classical.choose_spec hx] at h1
    cases hm : M (Classical.choose hx) with
    | ok r => rw [hm] at h1; exact h1
    | ex _ _ => rw [hm] at h1; exact h1
    | no => rw [hm] at hn; exact absurd rfl hn
  · have e : (FnI.of m dec M fs).f xs = .no := dif_neg hx
    exact absurd e hn
def PIn (C a : Addr) (fs : α → List (Str × PyData)) (r : α) (o : Oc) : Prop := o.resI C a = .ok (fs r)
theorem si_runI {s : XS K} {C a : Addr} {k : Nat} {xs : List Av} {m : Rs α} {fs : α → List (Str × PyData)} (h : SS s (startI C a xs k) m (PIn C a fs)) : Si (runI s C a k xs) m fs := by
  cases m with
  | ok r => exact h
  | ex D n =>
    obtain ⟨st', _, h2⟩ := h
    show Oc.resI C a (s.ev (startI C a xs k)) = _
    rw [h2]; rfl
  | no => trivial
theorem pi_nx {C a : Addr} {fs : α → List (Str × PyData)} {r : α} {l : List (Str × PyData)} (h : st[(0 : Nat)]? = some (.oi C a l)) (he : fs r = l) : PIn C a fs r (.nx st) := by
  show (match st[(0 : Nat)]? with
    | some (.oi C' a' fs) => if C' = C ∧ a' = a then Rs.ok fs else .no
    | _ => .no) = _
  rw [h]
  show (if C = C ∧ a = a then Rs.ok l else .no) = _
  rw [if_pos ⟨rfl, rfl⟩, he]
theorem ss_setfld {i : Nat} {C a : Addr} {c : Cls K C} {f : Str} {hn : NoAttr K C f} {x : XE K} {b : XS K} {fs : List (Str × PyData)} {E : En γ} {u : γ} {st1 : List Sv} {m : Rs α} {P : α → Oc → Prop} (hi : st[i]? = some (.oi C a fs)) (hf : (fs.lookup f).isNone = true) (hz : Nat.blt fs.length 1000 = true) (h : SV E.v x st (.ok u)) (hs : st.set i (.oi C a (fs ++ [(f, E.e u)])) = st1) (k : SS b st1 m P) : SS (.seq (.setfld i C c f hn x) b) st m P := by
  have h : x.ev st = .ok (E.v u) := h
  refine ss_step (st1 := st1) ?_ (by rw [← hs, List.length_set]) k
  show (match st[i]? with
    | some (.oi C' a fs) => if C' = C ∧ (fs.lookup f).isNone = true ∧ fs.length < 1000 then (x.ev st).oc st fun v => match v with
      | Vl.d d => Oc.nx (st.set i (.oi C a (fs ++ [(f, d)])))
      | _ => .no else .no
    | _ => .no) = _
  rw [hi]
  show (if C = C ∧ (fs.lookup f).isNone = true ∧ fs.length < 1000 then (x.ev st).oc st _ else .no) = _
  rw [if_pos ⟨rfl, hf, Nat.le_of_ble_eq_true hz⟩, h]
  show Oc.nx _ = _
  rw [← hs]
theorem ss_setfldI {i : Nat} {C a : Addr} {c : Cls K C} {f : Str} {hn : NoAttr K C f} {x : XE K} {b : XS K} {fs : List (Str × PyData)} {E : En γ} {n : Rs γ} {st1 : γ → List Sv} {g : γ → Rs α} {P : α → Oc → Prop} (hi : st[i]? = some (.oi C a fs)) (hf : (fs.lookup f).isNone = true) (hz : Nat.blt fs.length 1000 = true) (h : SV E.v x st n) (hs : ∀ u, st.set i (.oi C a (fs ++ [(f, E.e u)])) = st1 u) (k : ∀ u, SS b (st1 u) (g u) P) : SS (.seq (.setfld i C c f hn x) b) st (n.bind g) P := by
  cases n with
  | ok u => exact ss_setfld hi hf hz h (hs u) (k u)
  | ex D n =>
    refine ss_xc (st1 := st) ?_ rfl
    show (match st[i]? with
    | some (.oi C' a fs) => if C' = C ∧ (fs.lookup f).isNone = true ∧ fs.length < 1000 then (x.ev st).oc st fun v => match v with
      | Vl.d d => Oc.nx (st.set i (.oi C a (fs ++ [(f, d)])))
      | _ => .no else .no
    | _ => .no) = _
    rw [hi]
    show (if C = C ∧ (fs.lookup f).isNone = true ∧ fs.length < 1000 then (x.ev st).oc st _ else .no) = _
    rw [if_pos ⟨rfl, hf, Nat.le_of_ble_eq_true hz⟩]
    exact oc_xc h
  | no => trivial
/-- x not in a tuple of texts -/
theorem sv_inK {neg : Bool} {x : XE K} {p : Addr} {ss : List Str} {hq : ∀ H : Hp, SqT K H p (ss.map V.str)} {s : Str} (h : SV eS.v x st (.ok s)) : SV eB.v (.inK neg x p ss hq) st (.ok (if neg then !decide (s ∈ ss) else decide (s ∈ ss))) := by
  have h : x.ev st = .ok (eS.v s) := h
  show (x.ev st).bind _ = _
  rw [h]; rfl
theorem ss_raiseI {C : Addr} {hC : OexC K C} {hn : PySem.W.findIn K (.ref C) "at" = some none} {x : XE K} {m : Rs Int} {P : α → Oc → Prop} (h : SV eI.v x st m) : SS (.raise C hC hn (.cons false x .nil)) st (m.bind fun n => (.ex C n : Rs α)) P := by
  cases m with
  | ok n => exact ss_raise h
  | ex D n =>
    have h : x.ev st = .ex D n := h
    refine ⟨st, rfl, ?_⟩
    show ((((x.ev st).bind _).bind _).oc st _) = _
    rw [h]; rfl
  | no => trivial
theorem sl_ofE {E : En α} {x : XE K} {m : Rs (List α)} (h : SV (eL E).v x st m) (hx : x.el st = (okV (x.ev st)).bind asL) : SL (List.map E.e) x st m := sl_of (f := List.map E.e) h hx
theorem sw_ofE {E : En α} {x : XE K} {m : Rs (List α)} (h : SV (eL E).v x st m) (hx : x.es st = (okV (x.ev st)).bind asS) : SW (List.map E.e) x st m := sw_of (f := List.map E.e) h hx
theorem sv_eE {E : En α} {n : XN K} {m : Rs (List α)} (h : SN (List.map E.e) n st m) : SV (eL E).v n.e st m := sv_e (f := List.map E.e) h
theorem si_fnE {F : Fn} {xs : List Av} {E : En α} {m : Rs (List α)} {n : Nat} (hm : F.m = n) (h : Si (F.f xs) m (eL E).v) (hl : Nat.beq xs.length n = true := by rfl) : Si (if xs.length = F.m then (F.f xs).bind lOf else .no) m (List.map E.e) := si_fnN (f := List.map E.e) hm h hl
theorem si_meE {F : Fn} {o : Av} {xs : List Av} {E : En α} {m : Rs (List α)} {n : Nat} (hm : F.m = n) (h : Si (F.f (o :: xs)) m (eL E).v) (hl : Nat.beq (xs.length + 1) n = true := by rfl) : Si (if xs.length + 1 = F.m then (F.f (o :: xs)).bind lOf else .no) m (List.map E.e) := si_meN (f := List.map E.e) hm h hl
theorem sv_theOI {E : En α} {x : XE K} {m : Rs (Option α)} (h : SV (eO E).v x st m) : SV E.v x st (m.bind theO) := by
  cases m with
  | ok o => exact sv_theO h
  | ex C n => exact h
  | no => trivial
theorem sv_none {E : En α} {x : XE K} {m : Rs Unit} (h : SV eU.v x st m) : SV (eO E).v x st (m.bind fun _ => .ok none) := by
  cases m with
  | ok _ => exact h
  | ex C n => exact h
  | no => trivial
/-- an append to a list that nobody reads any more -/
theorem ss_appJ {i : Nat} {x : XE K} {b : XS K} {ds : List PyData} {E : En γ} {u : γ} {n : Nat} {st1 : List Sv} {m : Rs α} {P : α → Oc → Prop} (hi : st[i]? = some (.ol ds)) (hn : ds.length = n) (h : SV E.v x st (.ok u)) (hs : st.set i .x = st1) (k : SS b st1 m P) : SS (.seq (.post [i] (.app i x)) b) st (grd (n < 1000000) m) P := by
  unfold grd
  by_cases hc : n < 1000000
  · rw [if_pos hc]
    have h : x.ev st = .ok (E.v u) := h
    refine ss_step (st1 := st1) ?_ (by rw [← hs, List.length_set]) k
    show postO [i] (match st[i]? with
    | some (.ol ds) => (x.ev st).oc st fun a => match a with
      | Vl.d d => if ds.length < 1000000 then Oc.nx (st.set i (.ol (ds ++ [d]))) else .no
      | _ => .no
    | _ => .no) = _
    rw [hi]
    show postO [i] ((x.ev st).oc st _) = _
    rw [h]
    show postO [i] (if ds.length < 1000000 then Oc.nx (st.set i (.ol (ds ++ [E.e u]))) else .no) = _
    rw [if_pos (by rw [hn]; exact hc), ← hs]
    show Oc.nx ((st.set i _).set i .x) = _
    rw [List.set_set]
  · rw [if_neg hc]; trivial
end
end R

set_option Elab.async false
set_option linter.all false
set_option maxRecDepth 100000
set_option maxHeartbeats 2000000
/-! ZD: order, least, greatest, sorted of data. -/
namespace ZD
open PySem PySem.Spec PyProof.Rows L2 Z PySem.W
section
variable {X : Cx}
/-- an order of data -/
def rOrdD (K : PySem.W.Frag) (f : PyData → PyData → Bool) : R2 := fun x y H Q => ∃ d e, L2.Dp K H x d ∧ L2.Dp K H y e ∧ alike d e = true ∧ d ≠ .none ∧ d.depth ≤ 60 ∧ Q (.bl (f d e)) H
theorem op_ltD (hu : X.A.units + 64 < cLine) : OpR X (compareOp .Lt) (rOrdD X.K dataLt) := by
  intro pins s σ H x y v u Q I rx ry h
  obtain ⟨d, e, hd, he, ha, hn, hk, q⟩ := h
  obtain ⟨as, r1⟩ := L2.Dp.reads I d x v hd rx
  obtain ⟨bs, r2⟩ := L2.Dp.reads I e y u he ry
  exact lt_data r1 r2 ha hn (by have := Nat.min_le_left d.depth e.depth; omega) ⟨.bl _, H, I, rfl, q⟩
theorem op_gtD (hu : X.A.units + 64 < cLine) : OpR X (compareOp .Gt) (rOrdD X.K fun d e => dataLt e d) := by
  intro pins s σ H x y v u Q I rx ry h
  obtain ⟨d, e, hd, he, ha, hn, hk, q⟩ := h
  obtain ⟨as, r1⟩ := L2.Dp.reads I d x v hd rx
  obtain ⟨bs, r2⟩ := L2.Dp.reads I e y u he ry
  exact gt_data r1 r2 ha hn (by have := Nat.min_le_left d.depth e.depth; omega) ⟨.bl _, H, I, rfl, q⟩
theorem op_leD (hu : X.A.units + 64 < cLine) : OpR X (compareOp .LtE) (rOrdD X.K fun d e => !dataLt e d) := by
  intro pins s σ H x y v u Q I rx ry h
  obtain ⟨d, e, hd, he, ha, hn, hk, q⟩ := h
  obtain ⟨as, r1⟩ := L2.Dp.reads I d x v hd rx
  obtain ⟨bs, r2⟩ := L2.Dp.reads I e y u he ry
  exact le_data r1 r2 ha hn (by have := Nat.min_le_left d.depth e.depth; omega) ⟨.bl _, H, I, rfl, q⟩
theorem op_geD (hu : X.A.units + 64 < cLine) : OpR X (compareOp .GtE) (rOrdD X.K fun d e => !dataLt d e) := by
  intro pins s σ H x y v u Q I rx ry h
  obtain ⟨d, e, hd, he, ha, hn, hk, q⟩ := h
  obtain ⟨as, r1⟩ := L2.Dp.reads I d x v hd rx
  obtain ⟨bs, r2⟩ := L2.Dp.reads I e y u he ry
  exact ge_data r1 r2 ha hn (by have := Nat.min_le_left d.depth e.depth; omega) ⟨.bl _, H, I, rfl, q⟩
theorem kop_ltD (K : PySem.W.Frag) (hu : X.A.units + 64 < cLine) (h : X.K = K := by rfl) : OpR X (compareOp .Lt) (rOrdD K dataLt) := by subst h; exact op_ltD hu
theorem kop_gtD (K : PySem.W.Frag) (hu : X.A.units + 64 < cLine) (h : X.K = K := by rfl) : OpR X (compareOp .Gt) (rOrdD K fun d e => dataLt e d) := by subst h; exact op_gtD hu
theorem kop_leD (K : PySem.W.Frag) (hu : X.A.units + 64 < cLine) (h : X.K = K := by rfl) : OpR X (compareOp .LtE) (rOrdD K fun d e => !dataLt e d) := by subst h; exact op_leD hu
theorem kop_geD (K : PySem.W.Frag) (hu : X.A.units + 64 < cLine) (h : X.K = K := by rfl) : OpR X (compareOp .GtE) (rOrdD K fun d e => !dataLt d e) := by subst h; exact op_geD hu
/-! least and greatest -/
variable {prog : Program} {w : World} {A : Around} {E : Value → Shared → Prop} {s : Shared}
/-- the item that is the best -/
def rBest (K : PySem.W.Frag) (best : PyData → List PyData → PyData) : List V → Hp → VK → Prop := fun vs H Q => ∃ (a : Addr) (ys : List V) (d : PyData) (ds : List PyData), vs = [V.ref a] ∧ SqL K H a ys ∧ L2.DpAll K H ys (d :: ds) ∧ AlikeAll (d :: ds) ∧ PyData.depthAll (d :: ds) ≤ 60 ∧
  ∀ (i : Nat) (y : V), ys[i]? = some y → (d :: ds)[i]? = some (best d ds) → Q y H
theorem getD_some {α : Type} {xs : List α} {i : Nat} {z x : α} (h : xs.getD i z = x) (hi : i < xs.length) : xs[i]? = some x := by
  rw [List.getD_eq_getElem?_getD, List.getElem?_eq_getElem hi] at h
  rw [List.getElem?_eq_getElem hi, ← h]
  rfl
theorem cr_minD (hc : X.calm = true) (hu : X.A.units + 64 < cLine) : CallR X (.builtin "min") (rBest X.K minD) := by
  intro pins s σ H vs us Q I r ⟨a, ys, d, ds, e, hs, hd, ha, hk, q⟩
  subst e
  obtain ⟨its, rv, hl, hz⟩ := I.list hs
  rw [Vals.ref1 r]
  obtain ⟨as, hr⟩ := L2.Dp.readsAll I (d :: ds) ys its hd rv
  refine min_list_data (I.ok.hd hc) hl.isList (vs := its.toArray) (by rw [List.toList_toArray]; exact hr) ha (by omega) ?_
  intro i v h' tk bs hv rd kp
  have hv2 : its[i]? = some v := by rw [← hv]; simp
  have hlt : i < its.length := (List.getElem?_eq_some_iff.mp hv2).1
  obtain ⟨cs, r2, hi, _, _⟩ := readsAll_at hr i v hv2
  have same := (rd.unique _ _ (reads_keeps kp r2)).1
  have hi2 : i < ys.length := by rw [rv.length]; exact hlt
  obtain ⟨u, hu1, hu2⟩ := rv.get (List.getElem?_eq_getElem hi2)
  cases Option.some.inj (hu1.symm.trans hv2)
  exact ⟨ys[i], H, I.kept kp, hu2, q i _ (List.getElem?_eq_getElem hi2) (getD_some same.symm hi)⟩
theorem cr_maxD' (hc : X.calm = true) (hu : X.A.units + 64 < cLine) : CallR X (.builtin "max") (rBest X.K maxD) := by
  intro pins s σ H vs us Q I r ⟨a, ys, d, ds, e, hs, hd, ha, hk, q⟩
  subst e
  obtain ⟨its, rv, hl, hz⟩ := I.list hs
  rw [Vals.ref1 r]
  obtain ⟨as, hr⟩ := L2.Dp.readsAll I (d :: ds) ys its hd rv
  refine max_list_data (I.ok.hd hc) hl.isList (vs := its.toArray) (by rw [List.toList_toArray]; exact hr) ha (by omega) ?_
  intro i v h' tk bs hv rd kp
  have hv2 : its[i]? = some v := by rw [← hv]; simp
  have hlt : i < its.length := (List.getElem?_eq_some_iff.mp hv2).1
  obtain ⟨cs, r2, hi, _, _⟩ := readsAll_at hr i v hv2
  have same := (rd.unique _ _ (reads_keeps kp r2)).1
  have hi2 : i < ys.length := by rw [rv.length]; exact hlt
  obtain ⟨u, hu1, hu2⟩ := rv.get (List.getElem?_eq_getElem hi2)
  cases Option.some.inj (hu1.symm.trans hv2)
  exact ⟨ys[i], H, I.kept kp, hu2, q i _ (List.getElem?_eq_getElem hi2) (getD_some same.symm hi)⟩
theorem kcr_minD (K : PySem.W.Frag) (hc : X.calm = true) (hu : X.A.units + 64 < cLine) (h : X.K = K := by rfl) : CallR X (.builtin "min") (rBest K minD) := by subst h; exact cr_minD hc hu
theorem kcr_maxD (K : PySem.W.Frag) (hc : X.calm = true) (hu : X.A.units + 64 < cLine) (h : X.K = K := by rfl) : CallR X (.builtin "max") (rBest K maxD) := by subst h; exact cr_maxD' hc hu
/-! sorted -/
def rSortD (K : PySem.W.Frag) : List V → Hp → VK → Prop := fun vs H Q => ∃ (a : Addr) (xs : List V) (ds : List PyData) (P : V → PyData → Prop), vs = [V.ref a] ∧ SqL K H a xs ∧ EachIs P xs ds ∧ (∀ x d, P x d → L2.Dp K H x d) ∧ (∀ d ∈ ds, d.depth ≤ 60) ∧ AllAlike ds ∧ Sortable ds ∧
  ∀ (ys : List V) (p : Addr), EachIs P ys (ds.mergeSort (dataLe false id)) → H p = none → Q (.ref p) (upd H p (.lst ys))
theorem each_len {α β : Type} {R : α → β → Prop} : ∀ {as : List α} {bs : List β}, EachIs R as bs → as.length = bs.length
  | _, _, .nil => rfl
  | _, _, .cons _ t => by rw [List.length_cons, List.length_cons, each_len t]
theorem each_vals {P : V → PyData → Prop} : ∀ {xs : List V} {us : List Value} {ds : List PyData}, Vals xs us → EachIs P xs ds → EachIs (fun u d => ∃ x, RelV x u ∧ P x d) us ds
  | _, _, _, .nil, .nil => .nil
  | _, _, _, .cons r1 r2, .cons h1 h2 => .cons ⟨_, r1, h1⟩ (each_vals r2 h2)
theorem vals_each {P : V → PyData → Prop} : ∀ {us : List Value} {ds : List PyData}, EachIs (fun u d => ∃ x, RelV x u ∧ P x d) us ds → ∃ xs : List V, Vals xs us ∧ EachIs P xs ds
  | _, _, .nil => ⟨[], .nil, .nil⟩
  | _, _, .cons ⟨x, r, p⟩ t => by
    obtain ⟨xs, h1, h2⟩ := vals_each t
    exact ⟨x :: xs, .cons r h1, .cons p h2⟩
theorem each_imp {α β : Type} {R S : α → β → Prop} (k : ∀ a b, R a b → S a b) : ∀ {as : List α} {bs : List β}, EachIs R as bs → EachIs S as bs
  | _, _, .nil => .nil
  | _, _, .cons h t => .cons (k _ _ h) (each_imp k t)
theorem cr_sortD (hu : X.A.units + 64 < cLine) : CallR X (.builtin "sorted") (rSortD X.K) := by
  intro pins s σ H vs us Q I r h
  obtain ⟨a, xs, ds, P, rfl, hs, hp, hd, hk, ha, hso, q⟩ := h
  obtain ⟨its, rv, hl, hz⟩ := I.list hs
  rw [Vals.ref1 r]
  have hv := each_vals rv hp
  have hlen : xs.length = ds.length := each_len hp
  refine sorted_data (R := fun u d => ∃ x, RelV x u ∧ P x d) (enc := id) hl.isList hv (each_imp (fun u d ⟨x, h1, h2⟩ => L2.Dp.reads I d x u (hd x d h2) h1) hv) (by rw [List.map_id]; exact ha) (by rw [List.map_id]; exact hso) (by rw [← hlen]; exact hz) (fun d hd' => by have := hk d hd'; show _ + d.depth < _; omega) fun out h1 h2 => ?_
  obtain ⟨ys, k1, k2⟩ := vals_each h2
  obtain ⟨ep, he'⟩ := PyProof.Rows.sortedAll_at s.heap its out.toArray
  have hzl : ys.length ≤ sizeLine := by
    rw [k1.length, h1, ← hlen]
    exact hz
  exact ⟨.ref _, upd H (s.heap.objs.size + 1) (.lst ys), I.laid (t' := s.toks) (fun _ _ => PyProof.Rows.sortedAll_old) (Nat.le_succ _) ⟨hzl, out, ep, k1, he'⟩, rfl, q ys _ k2 (I.hok.fresh (Nat.le_succ _))⟩
theorem kcr_sortD (K : PySem.W.Frag) (hu : X.A.units + 64 < cLine) (h : X.K = K := by rfl) : CallR X (.builtin "sorted") (rSortD K) := by subst h; exact cr_sortD hu
end
end ZD

set_option Elab.async false
set_option linter.all false
set_option maxRecDepth 100000
set_option maxHeartbeats 2000000
/-! ME: order, least, greatest, sorted; membership in tuples; reversed lists. -/
namespace R
open PySem PySem.Spec PyProof.Rows L2 Z PySem.W
section
variable {K : PySem.W.Frag}
def O2.ordD (f : PyData → PyData → Bool) : O2 K where
  r := ZD.rOrdD K f
  ka := false
  kb := false
  f := fun x y => match x, y with
    | .v (.d a), .v (.d b) => if alike a b = true ∧ isNone a = false ∧ a.depth ≤ 60 then some (.d (.bool (f a b))) else none
    | _, _ => none
  ok := fun x y z h => by
    split at h
    · split at h
      · rename_i hc
        cases h
        exact fun G H L x y Q l hx hy q => ⟨_, _, dq_dp (dp_up l.same hx), dq_dp (dp_up l.same hy), hc.1, (fun z => by rw [z] at hc; cases hc.2.1), hc.2.2, q _ (Dq.bl _)⟩
      · cases h
    · cases h
def O2.ltD : O2 K := .ordD dataLt
def O2.gtD : O2 K := .ordD fun d e => dataLt e d
def O2.leD : O2 K := .ordD fun d e => !dataLt e d
def O2.geD : O2 K := .ordD fun d e => !dataLt d e
def alikeB (ds : List PyData) : Bool := ds.all fun x => ds.all (alike x) && !isNone x
theorem alikeB_ok {ds : List PyData} (h : alikeB ds = true) : AlikeAll ds := by
  unfold alikeB at h
  rw [List.all_eq_true] at h
  refine ⟨fun x hx y hy => ?_, fun x hx z => ?_⟩
  · have := h x hx
    rw [Bool.and_eq_true, List.all_eq_true] at this
    exact this.1 y hy
  · have := h x hx
    rw [z] at this
    simp [isNone] at this
def Bi.bestD (best : PyData → List PyData → PyData) : Bi K where
  r := ZD.rBest K best
  f := fun as => match as with
    | [.l (d :: ds)] => if alikeB (d :: ds) = true ∧ PyData.depthAll (d :: ds) ≤ 60 then some (.d (best d ds)) else none
    | _ => none
  ok := fun as z h => by
    split at h
    · split at h
      · rename_i d ds hc
        cases h
        exact fun G H L vs Q l r q => by
          cases r with
          | cons h1 t =>
            cases t
            obtain ⟨a, ys, rfl, hH, hd⟩ := bl_sq l h1
            refine ⟨a, ys, d, ds, rfl, .inl (.inl hH), dqAll_dp (dpAll_up l.same hd), alikeB_ok hc.1, hc.2, fun i y hy hi => ?_⟩
            obtain ⟨v, hv, dv⟩ := dpAll_get hd hi
            have e : v = y := Option.some.inj (hv.symm.trans hy)
            rw [← e]
            exact q _ dv
      · cases h
    · cases h
theorem each_dq {G : Hp} : ∀ {vs : List V} {ds : List PyData}, DqAll G vs ds → EachIs (fun v d => Dq G v d) vs ds
  | _, _, .nil => .nil
  | _, _, .cons h t => .cons h (each_dq t)
theorem dq_each {G : Hp} : ∀ {vs : List V} {ds : List PyData}, EachIs (fun v d => Dq G v d) vs ds → DqAll G vs ds
  | _, _, .nil => .nil
  | _, _, .cons h t => .cons h (dq_each t)
def isTup1 : PyData → Bool
  | .tuple (_ :: _) => true
  | _ => false
def isTup : PyData → Bool
  | .tuple _ => true
  | _ => false
def sortB (ds : List PyData) : Bool := (ds.all fun x => ds.all (alike x)) && (ds.all isTup1 || ds.all fun x => !isNone x && !isTup x) && decide (PyData.depthAll ds ≤ 60)
theorem depthAll_mem {ds : List PyData} {k : Nat} (h : PyData.depthAll ds ≤ k) : ∀ d ∈ ds, d.depth ≤ k := by
  induction ds with
  | nil => exact fun _ z => (nomatch z)
  | cons x xs ih =>
    rw [PyData.depthAll] at h
    intro d hd
    rcases List.mem_cons.mp hd with rfl | hd
    · exact Nat.le_trans (Nat.le_max_left _ _) h
    · exact ih (Nat.le_trans (Nat.le_max_right _ _) h) d hd
theorem sortB_ok {ds : List PyData} (h : sortB ds = true) : (∀ d ∈ ds, d.depth ≤ 60) ∧ AllAlike ds ∧ Sortable ds := by
  unfold sortB at h
  rw [Bool.and_eq_true, Bool.and_eq_true, decide_eq_true_eq, List.all_eq_true, Bool.or_eq_true, List.all_eq_true, List.all_eq_true] at h
  obtain ⟨⟨h1, h2⟩, h3⟩ := h
  refine ⟨depthAll_mem h3, fun d hd d' hd' => List.all_eq_true.mp (h1 d hd) d' hd', ?_⟩
  rcases h2 with h2 | h2
  · left
    intro d hd
    have := h2 d hd
    unfold isTup1 at this
    split at this
    · exact ⟨_, _, rfl⟩
    · cases this
  · right
    intro d hd
    have := h2 d hd
    rw [Bool.and_eq_true] at this
    refine ⟨fun z => ?_, fun xs z => ?_⟩
    · rw [z] at this; simp [isNone] at this
    · rw [z] at this; simp [isTup] at this
def BiN.sortD : BiN K where
  r := ZD.rSortD K
  f := fun as => match as with
    | [.l ds] => if sortB ds = true then some (ds.mergeSort (dataLe false id)) else none
    | _ => none
  ok := fun as z h => by
    split at h
    · split at h
      · rename_i ds hc
        cases h
        obtain ⟨k1, k2, k3⟩ := sortB_ok hc
        exact fun G H L vs Q l r q => by
          cases r with
          | cons h1 t =>
            cases t
            obtain ⟨a, ys, rfl, hH, hd⟩ := bl_sq l h1
            exact ⟨a, ys, ds, fun v d => Dq G v d, rfl, .inl (.inl hH), each_dq hd, fun x d hx => dq_dp (dp_up l.same hx), k1, k2, k3, fun zs p hz hp => q p zs hp (dq_each hz)⟩
      · cases h
    · cases h
/-! in a tuple of numbers -/
theorem o_notInT {n : Int} {ns : List Int} : Op2 (rIn K true) (pu (dI n)) (pu (dat (.tuple (ns.map PyData.int)))) (dB (!decide (n ∈ ns))) := fun G H L x y Q l hx hy q => by
  cases hx
  have hy : Dq G y (.tuple (ns.map PyData.int)) := hy
  cases hy with
  | @tup p vs ds hh d =>
    have := dpAll_ints d
    subst this
    exact ⟨p, _, rfl, .inr (.inl (.inl (l.same _ _ hh))), rfl, flat_ints ns, by rw [inV_ints]; exact q _ (Dq.bl _)⟩
def O2.inT : O2 K where
  r := rIn K false
  ka := false
  kb := false
  f := fun x y => match x, y with
    | .v (.d (.int n)), .v (.d (.tuple ds)) => (intsOf ds).map fun ns => .d (.bool (decide (n ∈ ns)))
    | _, _ => none
  ok := fun x y z h => by
    split at h
    · obtain ⟨ns, h1, h2⟩ := Option.map_eq_some_iff.mp h
      cases h2
      rw [intsOf_some h1]
      exact o_inT
    · cases h
def O2.notInT : O2 K where
  r := rIn K true
  ka := false
  kb := false
  f := fun x y => match x, y with
    | .v (.d (.int n)), .v (.d (.tuple ds)) => (intsOf ds).map fun ns => .d (.bool (!decide (n ∈ ns)))
    | _, _ => none
  ok := fun x y z h => by
    split at h
    · obtain ⟨ns, h1, h2⟩ := Option.map_eq_some_iff.mp h
      cases h2
      rw [intsOf_some h1]
      exact o_notInT
    · cases h
/-! reversed -/
theorem dpAll_rev {G : Hp} : ∀ {vs : List V} {ds : List PyData}, DqAll G vs ds → DqAll G vs.reverse ds.reverse
  | _, _, .nil => .nil
  | _, _, .cons h t => by
    rw [List.reverse_cons, List.reverse_cons]
    exact dpAll_app (dpAll_rev t) (.cons h .nil)
theorem en_rev {te : TE} {ρ : List Sl} {ds : List PyData} (h : Ev te ρ (bL ds)) : EvN (tRevL K te) ρ ds.reverse := ⟨fun Q s q => h.run _ s fun G1 H1 v e1 s1 r => by
  obtain ⟨L, sl, la⟩ := id s1
  obtain ⟨a, vs, rfl, hH, hd⟩ := bl_sq la (r G1 _ H1 (Same.refl _) sl la)
  exact ⟨a, vs, rfl, .inl (.inl hH), fun p hp => q G1 H1 p _ e1 s1 hp (dpAll_rev hd)⟩⟩
def XN.rev (e : XE K) : XN K where
  te := fun md => tRevL K (e.te md)
  ev := fun st => match e.el st with
    | some ds => .ok ds.reverse
    | none => .no
  ok := fun md st => by
    cases h : e.el st with
    | none => trivial
    | some ds => exact en_rev (e.okl md st ds h)
theorem kpe_revL (K : PySem.W.Frag) {X : Cx} {e : Expr} {te : TE} {k : Nat} {p1 p2 p3 pos : Pos} (he : PE X e te) (h : X.K = K := by rfl) : PE X (.Subscript e (.Slice none none (some (.UnaryOp .USub (.Constant (.int 1) k p1) p2)) p3) pos) (tRevL K te) := by subst h; exact pe_revL he
end
/-! typed -/
class OrdE {α : Type} (E : En α) where
  lt : α → α → Bool
  al : ∀ a b, alike (E.e a) (E.e b) = true
  eq : ∀ a b, dataLt (E.e a) (E.e b) = lt a b
theorem dataLt_irr (d : PyData) : dataLt d d = false := lex_irrefl _
theorem dataLt_tup (xs ys : List PyData) : dataLt (.tuple xs) (.tuple ys) = rowLt xs ys := by
  unfold dataLt rowLt
  rw [keyToks, keyToks]
theorem dataLt_lst (xs ys : List PyData) : dataLt (.list xs) (.list ys) = rowLt xs ys := by
  unfold dataLt rowLt
  rw [keyToks, keyToks]
theorem rowLt_cons {x y : PyData} (h : alike x y = true) (xs ys : List PyData) : rowLt (x :: xs) (y :: ys) = if PyData.eqv x y = true then rowLt xs ys else dataLt x y := dataLt_cons h xs ys
instance : OrdE eI where
  lt a b := decide (a < b)
  al a b := by show alike (.int a) (.int b) = true; rw [alike]
  eq a b := dataLt_int a b
theorem rowLt_nil : rowLt [] [] = false := by unfold rowLt; exact lex_irrefl _
theorem one_lt {α : Type} {E : En α} [EqV E] [o : OrdE E] [DecidableEq α] (a b : α) : (if PyData.eqv (E.e a) (E.e b) = true then false else dataLt (E.e a) (E.e b)) = o.lt a b := by
  rw [EqV.dec, ← o.eq]
  by_cases h : a = b
  · subst h
    rw [decide_eq_true rfl, if_pos rfl, dataLt_irr]
  · rw [decide_eq_false h, if_neg (fun z => nomatch z)]
instance {α : Type} {A : En α} [EqV A] [oa : OrdE A] [DecidableEq α] : OrdE (eT1 A) where
  lt p q := oa.lt p q
  al p q := by
    show alike (.tuple _) (.tuple _) = true
    simp [alike, alikeAll, oa.al]
  eq p q := by
    show dataLt (.tuple _) (.tuple _) = _
    rw [dataLt_tup, rowLt_cons (oa.al _ _), rowLt_nil, one_lt]
instance {α β : Type} {A : En α} {B : En β} [EqV A] [EqV B] [oa : OrdE A] [ob : OrdE B] [DecidableEq α] [DecidableEq β] : OrdE (eT2 A B) where
  lt p q := if p.1 = q.1 then ob.lt p.2 q.2 else oa.lt p.1 q.1
  al p q := by
    show alike (.tuple _) (.tuple _) = true
    simp [alike, alikeAll, oa.al, ob.al]
  eq p q := by
    show dataLt (.tuple _) (.tuple _) = _
    rw [dataLt_tup, rowLt_cons (oa.al _ _), rowLt_cons (ob.al _ _), rowLt_nil, one_lt, EqV.dec, oa.eq]
    by_cases h : p.1 = q.1 <;> simp [h]
instance {α β γ : Type} {A : En α} {B : En β} {C : En γ} [EqV A] [EqV B] [EqV C] [oa : OrdE A] [ob : OrdE B] [oc : OrdE C] [DecidableEq α] [DecidableEq β] [DecidableEq γ] : OrdE (eT3 A B C) where
  lt p q := if p.1 = q.1 then (if p.2.1 = q.2.1 then oc.lt p.2.2 q.2.2 else ob.lt p.2.1 q.2.1) else oa.lt p.1 q.1
  al p q := by
    show alike (.tuple _) (.tuple _) = true
    simp [alike, alikeAll, oa.al, ob.al, oc.al]
  eq p q := by
    show dataLt (.tuple _) (.tuple _) = _
    rw [dataLt_tup, rowLt_cons (oa.al _ _), rowLt_cons (ob.al _ _), rowLt_cons (oc.al _ _), rowLt_nil, one_lt, EqV.dec, EqV.dec, oa.eq, ob.eq]
    by_cases h : p.1 = q.1 <;> by_cases h2 : p.2.1 = q.2.1 <;> simp [h, h2]
def ltL {α : Type} [DecidableEq α] (lt : α → α → Bool) : List α → List α → Bool
  | [], [] => false
  | [], _ :: _ => true
  | _ :: _, [] => false
  | x :: xs, y :: ys => if x = y then ltL lt xs ys else lt x y
theorem alikeAll_map {α : Type} {A : En α} [oa : OrdE A] : ∀ xs ys : List α, alikeAll (xs.map A.e) (ys.map A.e) = true
  | [], _ => by simp [alikeAll]
  | _ :: _, [] => by simp [alikeAll]
  | x :: xs, y :: ys => by
    rw [List.map_cons, List.map_cons, alikeAll, oa.al, alikeAll_map xs ys]; rfl
theorem rowLt_map {α : Type} {A : En α} [EqV A] [oa : OrdE A] [DecidableEq α] : ∀ xs ys : List α, rowLt (xs.map A.e) (ys.map A.e) = ltL oa.lt xs ys
  | [], [] => rowLt_nil
  | [], y :: ys => by
    unfold rowLt
    rw [List.map_nil, List.map_cons, keyToksAll, keyToksAll]
    rfl
  | x :: xs, [] => by
    unfold rowLt
    rw [List.map_nil, List.map_cons, keyToksAll, keyToksAll]
    rfl
  | x :: xs, y :: ys => by
    rw [List.map_cons, List.map_cons, rowLt_cons (oa.al _ _), rowLt_map xs ys, EqV.dec, oa.eq, ltL]
    by_cases h : x = y <;> simp [h]
instance {α : Type} {A : En α} [EqV A] [oa : OrdE A] [DecidableEq α] : OrdE (eL A) where
  lt := ltL oa.lt
  al p q := by
    show alike (.list _) (.list _) = true
    rw [alike]
    exact alikeAll_map p q
  eq p q := by
    show dataLt (.list _) (.list _) = _
    rw [dataLt_lst, rowLt_map]
/-- never a tuple, or a tuple with an item -/
class SortE {α : Type} (E : En α) : Prop where
  so : (∀ a, isTup1 (E.e a) = true) ∨ ∀ a, isNone (E.e a) = false ∧ isTup (E.e a) = false
instance : SortE eI := ⟨.inr fun _ => ⟨rfl, rfl⟩⟩
instance {α : Type} {A : En α} : SortE (eL A) := ⟨.inr fun _ => ⟨rfl, rfl⟩⟩
instance {α : Type} {A : En α} : SortE (eT1 A) := ⟨.inl fun _ => rfl⟩
instance {α β : Type} {A : En α} {B : En β} : SortE (eT2 A B) := ⟨.inl fun _ => rfl⟩
instance {α β γ : Type} {A : En α} {B : En β} {C : En γ} : SortE (eT3 A B C) := ⟨.inl fun _ => rfl⟩
section
variable {K : PySem.W.Frag} {α β : Type}
theorem so_ordD {f : PyData → PyData → Bool} {E : En α} [o : OrdE E] [n : NoNone E] {k : Nat} [p : ShP E k] {x y : α} (hk : k ≤ 60 := by decide) : Si (Rs.of ((O2.ordD f : O2 K).f (.v (E.v x)) (.v (E.v y)))) (.ok (f (E.e x) (E.e y))) eB.v := by
  show Rs.of (if alike (E.e x) (E.e y) = true ∧ isNone (E.e x) = false ∧ (E.e x).depth ≤ 60 then _ else _) = _
  rw [if_pos ⟨o.al _ _, n.nn _, Nat.le_trans (p.sh x).deep hk⟩]
  rfl
theorem so_ltD {E : En α} [o : OrdE E] [n : NoNone E] {k : Nat} [p : ShP E k] {x y : α} (hk : k ≤ 60 := by decide) : Si (Rs.of ((O2.ltD : O2 K).f (.v (E.v x)) (.v (E.v y)))) (.ok (o.lt x y)) eB.v := by
  rw [← o.eq]; exact so_ordD hk
theorem so_gtD {E : En α} [o : OrdE E] [n : NoNone E] {k : Nat} [p : ShP E k] {x y : α} (hk : k ≤ 60 := by decide) : Si (Rs.of ((O2.gtD : O2 K).f (.v (E.v x)) (.v (E.v y)))) (.ok (o.lt y x)) eB.v := by
  rw [← o.eq]; exact so_ordD (f := fun d e => dataLt e d) hk
theorem so_leD {E : En α} [o : OrdE E] [n : NoNone E] {k : Nat} [p : ShP E k] {x y : α} (hk : k ≤ 60 := by decide) : Si (Rs.of ((O2.leD : O2 K).f (.v (E.v x)) (.v (E.v y)))) (.ok (!o.lt y x)) eB.v := by
  rw [← o.eq]; exact so_ordD (f := fun d e => !dataLt e d) hk
theorem so_geD {E : En α} [o : OrdE E] [n : NoNone E] {k : Nat} [p : ShP E k] {x y : α} (hk : k ≤ 60 := by decide) : Si (Rs.of ((O2.geD : O2 K).f (.v (E.v x)) (.v (E.v y)))) (.ok (!o.lt x y)) eB.v := by
  rw [← o.eq]; exact so_ordD (f := fun d e => !dataLt d e) hk
def minT (lt : α → α → Bool) : List α → Rs α
  | [] => .no
  | x :: xs => .ok (xs.foldl (fun a y => if lt y a = true then y else a) x)
def maxT (lt : α → α → Bool) : List α → Rs α
  | [] => .no
  | x :: xs => .ok (xs.foldl (fun a y => if lt a y = true then y else a) x)
def sortT (lt : α → α → Bool) (xs : List α) : List α := xs.mergeSort fun a b => !lt b a
theorem depthAll_map {E : En α} {k : Nat} [p : ShP E k] (xs : List α) : PyData.depthAll (xs.map E.e) ≤ k := deepAll fun d hd => by
  obtain ⟨x, _, rfl⟩ := List.mem_map.mp hd
  exact (p.sh x).deep
theorem alikeB_map {E : En α} [o : OrdE E] [n : NoNone E] (xs : List α) : alikeB (xs.map E.e) = true := by
  unfold alikeB
  rw [List.all_eq_true]
  intro d hd
  obtain ⟨x, _, rfl⟩ := List.mem_map.mp hd
  rw [Bool.and_eq_true, List.all_eq_true, n.nn]
  refine ⟨fun e he => ?_, rfl⟩
  obtain ⟨y, _, rfl⟩ := List.mem_map.mp he
  exact o.al x y
theorem fold_map {E : En α} (g : PyData → PyData → Bool) (f : α → α → Bool) (h : ∀ a b, g (E.e a) (E.e b) = f a b) : ∀ (xs : List α) (x : α), (xs.map E.e).foldl (fun a y => if g y a = true then y else a) (E.e x) = E.e (xs.foldl (fun a y => if f y a = true then y else a) x)
  | [], x => rfl
  | y :: ys, x => by
    rw [List.map_cons, List.foldl_cons, List.foldl_cons, h, ← fold_map g f h ys]
    congr 1
    cases f y x <;> rfl
theorem so_minD {E : En α} [o : OrdE E] [n : NoNone E] {k : Nat} [p : ShP E k] {xs : List α} (hk : k ≤ 60 := by decide) : Si (Rs.of ((Bi.bestD minD : Bi K).f [.l (xs.map E.e)])) (minT o.lt xs) E.v := by
  cases xs with
  | nil => trivial
  | cons x xs =>
    show Rs.of (if alikeB ((x :: xs).map E.e) = true ∧ PyData.depthAll ((x :: xs).map E.e) ≤ 60 then _ else _) = _
    rw [if_pos ⟨alikeB_map _, Nat.le_trans (depthAll_map _) hk⟩]
    show Rs.ok (Vl.d (minD (E.e x) (xs.map E.e))) = _
    unfold minD
    rw [fold_map dataLt o.lt o.eq]
    rfl
theorem so_maxD {E : En α} [o : OrdE E] [n : NoNone E] {k : Nat} [p : ShP E k] {xs : List α} (hk : k ≤ 60 := by decide) : Si (Rs.of ((Bi.bestD maxD : Bi K).f [.l (xs.map E.e)])) (maxT o.lt xs) E.v := by
  cases xs with
  | nil => trivial
  | cons x xs =>
    show Rs.of (if alikeB ((x :: xs).map E.e) = true ∧ PyData.depthAll ((x :: xs).map E.e) ≤ 60 then _ else _) = _
    rw [if_pos ⟨alikeB_map _, Nat.le_trans (depthAll_map _) hk⟩]
    show Rs.ok (Vl.d (maxD (E.e x) (xs.map E.e))) = _
    unfold maxD
    rw [fold_map (fun a b => dataLt b a) (fun a b => o.lt b a) (fun a b => o.eq b a)]
    rfl
theorem so_sortD {E : En α} [o : OrdE E] [q : SortE E] {k : Nat} [p : ShP E k] {xs : List α} (hk : k ≤ 60 := by decide) : Si (Rs.of ((BiN.sortD : BiN K).f [.l (xs.map E.e)])) (.ok (sortT o.lt xs)) (List.map E.e) := by
  have hs : sortB (xs.map E.e) = true := by
    unfold sortB
    rw [Bool.and_eq_true, Bool.and_eq_true, decide_eq_true_eq, List.all_eq_true, Bool.or_eq_true, List.all_eq_true, List.all_eq_true]
    refine ⟨⟨fun d hd => ?_, ?_⟩, Nat.le_trans (depthAll_map _) hk⟩
    · obtain ⟨x, _, rfl⟩ := List.mem_map.mp hd
      rw [List.all_eq_true]
      intro e he
      obtain ⟨y, _, rfl⟩ := List.mem_map.mp he
      exact o.al x y
    · rcases q.so with q | q
      · left
        intro d hd
        obtain ⟨x, _, rfl⟩ := List.mem_map.mp hd
        exact q x
      · right
        intro d hd
        obtain ⟨x, _, rfl⟩ := List.mem_map.mp hd
        rw [(q x).1, (q x).2]; rfl
  show Rs.of (if sortB (xs.map E.e) = true then some ((xs.map E.e).mergeSort (dataLe false id)) else none) = _
  rw [if_pos hs]
  show Rs.ok _ = Rs.ok _
  unfold sortT
  rw [List.map_mergeSort (f := E.e) (s := dataLe false id)]
  intro a _ b _
  show _ = !dataLt (E.e b) (E.e a)
  rw [o.eq]
theorem so_inT {x : Int} {ns : List Int} {ds : List PyData} (h : intsOf ds = some ns) : Si (Rs.of ((O2.inT : O2 K).f (.v (eI.v x)) (.v (.d (.tuple ds))))) (.ok (decide (x ∈ ns))) eB.v := by
  show Rs.of ((intsOf ds).map _) = _
  rw [h]; rfl
theorem so_notInT {x : Int} {ns : List Int} {ds : List PyData} (h : intsOf ds = some ns) : Si (Rs.of ((O2.notInT : O2 K).f (.v (eI.v x)) (.v (.d (.tuple ds))))) (.ok (!decide (x ∈ ns))) eB.v := by
  show Rs.of ((intsOf ds).map _) = _
  rw [h]; rfl
theorem sn_rev {st : List Sv} {E : En α} {x : XE K} {xs : List α} (h : SL (List.map E.e) x st (.ok xs)) : SN (List.map E.e) (.rev x) st (.ok xs.reverse) := by
  show (match x.el st with
    | some ds => Rs.ok ds.reverse
    | none => .no) = _
  rw [el_of h]
  show Rs.ok (xs.map E.e).reverse = _
  rw [← List.map_reverse]
/-! names that a loop sets first -/
def ox (e : α → Vl) : Option α → Sv
  | none => .x
  | some v => .v (e v)
def oxl (f : α → List PyData) : Option α → Sv
  | none => .x
  | some v => .ol (f v)
theorem ss_theO {γ : Type} {o : Option γ} {b : XS K} {st : Option γ → List Sv} {g : γ → Rs α} {P : α → Oc → Prop} (k : ∀ v, SS b (st (some v)) (g v) P) : SS b (st o) ((theO o).bind g) P := by
  cases o with
  | none => trivial
  | some v => exact k v
end
end R

set_option Elab.async false
set_option linter.all false
set_option maxRecDepth 100000
set_option maxHeartbeats 2000000
/-! ZI: zip of three lists. -/
namespace ZI
open PySem PySem.Spec PyProof.Rows L2 Z
/-- three values in a tuple -/
abbrev Tri (h : Heap) (T : Addr) (a b c : Value) : Prop := h.get? T = some { cls := .type "tuple", data := .seq #[a, b, c] }
/-- what a zip's turn writes stands apart from what it reads -/
structure Ap (z TI TO : Addr) (j1 j2 j3 m1 m2 m3 : Addr) : Prop where
  zO : z ≠ TO
  z1 : z ≠ j1
  z2 : z ≠ j2
  z3 : z ≠ j3
  O1 : TO ≠ j1
  O2 : TO ≠ j2
  O3 : TO ≠ j3
  e12 : j1 ≠ j2
  e13 : j1 ≠ j3
  e23 : j2 ≠ j3
  I : TI ≠ z ∧ TI ≠ TO ∧ TI ≠ j1 ∧ TI ≠ j2 ∧ TI ≠ j3
  a1 : m1 ≠ z ∧ m1 ≠ TO ∧ m1 ≠ j1 ∧ m1 ≠ j2 ∧ m1 ≠ j3
  a2 : m2 ≠ z ∧ m2 ≠ TO ∧ m2 ≠ j1 ∧ m2 ≠ j2 ∧ m2 ≠ j3
  a3 : m3 ≠ z ∧ m3 ≠ TO ∧ m3 ≠ j1 ∧ m3 ≠ j2 ∧ m3 ≠ j3
theorem ap_of {n m1 m2 m3 : Nat} (h1 : m1 < n) (h2 : m2 < n) (h3 : m3 < n) : Ap (n + 5) (n + 3) (n + 4) n (n + 1) (n + 2) m1 m2 m3 := by
  have k : ∀ i j : Nat, i ≠ j → (n + i : Nat) ≠ n + j := fun i j h => by omega
  have l : ∀ m : Nat, m < n → ∀ i : Nat, (m : Nat) ≠ n + i := fun m h i => by omega
  exact ⟨k 5 4 (by decide), k 5 0 (by decide), k 5 1 (by decide), k 5 2 (by decide), k 4 0 (by decide), k 4 1 (by decide), k 4 2 (by decide), k 0 1 (by decide), k 0 2 (by decide), k 1 2 (by decide),
    ⟨k 3 5 (by decide), k 3 4 (by decide), k 3 0 (by decide), k 3 1 (by decide), k 3 2 (by decide)⟩, ⟨l m1 h1 5, l m1 h1 4, l m1 h1 0, l m1 h1 1, l m1 h1 2⟩, ⟨l m2 h2 5, l m2 h2 4, l m2 h2 0, l m2 h2 1, l m2 h2 2⟩, ⟨l m3 h3 5, l m3 h3 4, l m3 h3 0, l m3 h3 1, l m3 h3 2⟩⟩
section
variable {prog : Program} {w : World} {A : Around} {E : Value → Shared → Prop} {s : Shared}
theorem put3 {T : Addr} {a b c x : Value} {k : Nat} {Q : Unit → Shared → Prop} (hT : Tri s.heap T a b c)
    (h : ∀ g, g.get? T = some { cls := .type "tuple", data := .seq ((#[a, b, c] : Array Value).setIfInBounds k x) } → Heap.SameBut T s.heap g → Q () { s with heap := g }) :
    wpAny (model prog w) A (updateSeq T (·.setIfInBounds k x)) Q E s := by
  apply wpAny_updateSeq hT rfl
  apply h
  · rw [Heap.get?_update_self _ hT rfl]; simp [Obj.mapSeq]
  · exact Heap.SameBut.update ..
/-- z, TO and the three iterators alone may have changed -/
def But (z TO j1 j2 j3 : Addr) (h g : Heap) : Prop := ∀ c o, c ≠ z → c ≠ TO → c ≠ j1 → c ≠ j2 → c ≠ j3 → h.get? c = some o → g.get? c = some o
theorem first3 {z TI TO j1 j2 j3 m1 m2 m3 : Addr} {k : Nat} {xs ys zs : Array Value} {a b c : Value} {Q : Fin → Shared → Prop} (D : Ap z TI TO j1 j2 j3 m1 m2 m3)
    (hz : IsZip s.heap z TI TO .none) (hI : Tri s.heap TI (.ref j1) (.ref j2) (.ref j3)) (hO : Tri s.heap TO a b c)
    (i1 : s.heap.IsListIter j1 m1 k) (i2 : s.heap.IsListIter j2 m2 k) (i3 : s.heap.IsListIter j3 m3 k) (l1 : s.heap.IsList m1 xs) (l2 : s.heap.IsList m2 ys) (l3 : s.heap.IsList m3 zs)
    (item : ∀ x y v, xs[k]? = some x → ys[k]? = some y → zs[k]? = some v → ∀ g, IsZip g z TI TO (rawInt s.heap.objs.size) → Tri g TO x y v → g.IsListIter j1 m1 (k + 1) → g.IsListIter j2 m2 (k + 1) → g.IsListIter j3 m3 (k + 1) → Tri g s.heap.objs.size x y v → g.objs.size = s.heap.objs.size + 1 →
      But z TO j1 j2 j3 s.heap g → Q (.done (.ret (.ref s.heap.objs.size))) { s with heap := g })
    (hh : A.handled = none)
    (stop : (xs[k]? = none ∨ ys[k]? = none ∨ zs[k]? = none) → ∀ g e, But z TO j1 j2 j3 s.heap g → (∃ o, g.get? e = some o ∧ o.cls = .type "StopIteration") → E (.ref e) { s with heap := g }) :
    wpAny (model prog w) A (Builtin.«zip.__next__» ⟨[.ref z], []⟩) Q E s := by
  show wpAny _ _ (field (.ref z) 2 >>= _) _ _ _
  apply wpAny_bind; apply wpAny_field hz rfl (x := .bool false) rfl
  show wpAny _ _ (field (.ref z) 3 >>= _) _ _ _
  apply wpAny_bind; apply wpAny_field hz rfl (x := .ref TI) rfl
  apply wpAny_bind; apply wpAny_seqItems hI rfl
  show wpAny _ _ (Builtin.SmallTypes.ownedTupleIsFree (.ref z) >>= _) _ _ _
  apply wpAny_bind
  unfold Builtin.SmallTypes.ownedTupleIsFree
  apply wpAny_bind; apply wpAny_field hz rfl (x := .none) rfl; apply wpAny_pure
  simp only [if_true]
  apply wpAny_bind; apply wpAny_rule
  apply wpAny_bind; apply wpAny_field hz rfl (x := .ref TO) rfl
  apply wpAny_bind; apply wpAny_setField_rec hz (by simp); intro g1 z1 s1
  replace z1 : IsZip g1 z TI TO .ellipsis := z1
  apply wpAny_bind
  simp only [List.zipIdx_cons, List.zipIdx_nil, List.forIn_cons, List.forIn_nil]
  have b1 : But z TO j1 j2 j3 s.heap g1 := fun c o cz _ _ _ _ q => s1.extBut _ _ cz q
  have O1 : Tri g1 TO a b c := s1.extBut _ _ D.zO.symm hO
  -- an end at one of the three: the zip is marked, the error goes on
  have ending : ∀ (g g' : Heap) (e : Addr), IsZip g z TI TO .ellipsis → But z TO j1 j2 j3 s.heap g' → (∃ o, g'.get? e = some o ∧ o.cls = .type "StopIteration") → IsZip g' z TI TO .ellipsis → (xs[k]? = none ∨ ys[k]? = none ∨ zs[k]? = none) →
      wpAny (model prog w) A (setField (.ref z) 0 .none) (fun _ s' => E (.ref e) s') E { s with heap := g' } := by
    intro g g' e _ bb ⟨o, ho, hc⟩ hz' hend
    have ez : e ≠ z := fun q => by rw [q] at ho; rw [hz'] at ho; cases ho; simp at hc
    apply wpAny_setField_rec hz' (by simp)
    intro g2 _ s2
    exact stop hend g2 e (fun c o cz cO c1 c2 c3 q => s2.extBut _ _ cz (bb c o cz cO c1 c2 c3 q)) ⟨o, s2.extBut _ _ ez ho, hc⟩
  apply wpAny_bind; apply wpAny_bind; apply wpAny_onRaise
  show wpAny _ _ (Builtin.SmallTypes.nextOf (.ref j1) >>= _) _ _ _
  have i1' := i1.extBut s1.extBut D.z1.symm
  have l1' := l1.extBut s1.extBut D.a1.1
  cases hx : xs[k]? with
  | none =>
    apply wpAny_bind; apply wpAny_nextOf_list_end hh i1' l1' hx
    intro g2 e s2 he
    exact ending g1 g2 e z1 (fun c o cz cO c1 c2 c3 q => s2 _ _ c1 (b1 c o cz cO c1 c2 c3 q)) he (s2 _ _ D.z1 z1) (.inl hx)
  | some x =>
  apply wpAny_bind; apply wpAny_nextOf_list_item i1' l1' hx
  intro g2 i1b s2
  apply wpAny_pure
  have b2 : But z TO j1 j2 j3 s.heap g2 := fun c o cz cO c1 c2 c3 q => s2.extBut _ _ c1 (b1 c o cz cO c1 c2 c3 q)
  have z2 : IsZip g2 z TI TO .ellipsis := s2.extBut _ _ D.z1 z1
  have O2 : Tri g2 TO a b c := s2.extBut _ _ D.O1 O1
  apply wpAny_bind; apply wpAny_seqItems O2 rfl
  apply wpAny_bind; apply put3 O2
  intro g3 O3 s3
  replace O3 : Tri g3 TO x b c := O3
  apply wpAny_bind; apply wpAny_letGo; apply wpAny_pure
  have b3 : But z TO j1 j2 j3 s.heap g3 := fun c o cz cO c1 c2 c3 q => s3.extBut _ _ cO (b2 c o cz cO c1 c2 c3 q)
  have z3 : IsZip g3 z TI TO .ellipsis := s3.extBut _ _ D.zO z2
  have i1c := i1b.extBut s3.extBut D.O1.symm
  have i2' : g3.IsListIter j2 m2 k := ((i2.extBut s1.extBut D.z2.symm).extBut s2.extBut D.e12.symm).extBut s3.extBut D.O2.symm
  have l2' : g3.IsList m2 ys := ((l2.extBut s1.extBut D.a2.1).extBut s2.extBut D.a2.2.2.1).extBut s3.extBut D.a2.2.1
  apply wpAny_bind; apply wpAny_bind; apply wpAny_onRaise
  show wpAny _ _ (Builtin.SmallTypes.nextOf (.ref j2) >>= _) _ _ _
  cases hy : ys[k]? with
  | none =>
    apply wpAny_bind; apply wpAny_nextOf_list_end hh i2' l2' hy
    intro g4 e s4 he
    exact ending g3 g4 e z3 (fun c o cz cO c1 c2 c3 q => s4 _ _ c2 (b3 c o cz cO c1 c2 c3 q)) he (s4 _ _ D.z2 z3) (.inr (.inl hy))
  | some y =>
  apply wpAny_bind; apply wpAny_nextOf_list_item i2' l2' hy
  intro g4 i2b s4
  apply wpAny_pure
  have b4 : But z TO j1 j2 j3 s.heap g4 := fun c o cz cO c1 c2 c3 q => s4.extBut _ _ c2 (b3 c o cz cO c1 c2 c3 q)
  have z4 : IsZip g4 z TI TO .ellipsis := s4.extBut _ _ D.z2 z3
  have O4 : Tri g4 TO x b c := s4.extBut _ _ D.O2 O3
  apply wpAny_bind; apply wpAny_seqItems O4 rfl
  apply wpAny_bind; apply put3 O4
  intro g5 O5 s5
  replace O5 : Tri g5 TO x y c := O5
  apply wpAny_bind; apply wpAny_letGo; apply wpAny_pure
  have b5 : But z TO j1 j2 j3 s.heap g5 := fun c o cz cO c1 c2 c3 q => s5.extBut _ _ cO (b4 c o cz cO c1 c2 c3 q)
  have z5 : IsZip g5 z TI TO .ellipsis := s5.extBut _ _ D.zO z4
  have i1d := (i1c.extBut s4.extBut D.e12).extBut s5.extBut D.O1.symm
  have i2c := i2b.extBut s5.extBut D.O2.symm
  have i3' : g5.IsListIter j3 m3 k := ((((i3.extBut s1.extBut D.z3.symm).extBut s2.extBut D.e13.symm).extBut s3.extBut D.O3.symm).extBut s4.extBut D.e23.symm).extBut s5.extBut D.O3.symm
  have l3' : g5.IsList m3 zs := ((((l3.extBut s1.extBut D.a3.1).extBut s2.extBut D.a3.2.2.1).extBut s3.extBut D.a3.2.1).extBut s4.extBut D.a3.2.2.2.1).extBut s5.extBut D.a3.2.1
  apply wpAny_bind; apply wpAny_bind; apply wpAny_onRaise
  show wpAny _ _ (Builtin.SmallTypes.nextOf (.ref j3) >>= _) _ _ _
  cases hv : zs[k]? with
  | none =>
    apply wpAny_bind; apply wpAny_nextOf_list_end hh i3' l3' hv
    intro g6 e s6 he
    exact ending g5 g6 e z5 (fun c o cz cO c1 c2 c3 q => s6 _ _ c3 (b5 c o cz cO c1 c2 c3 q)) he (s6 _ _ D.z3 z5) (.inr (.inr hv))
  | some v =>
  apply wpAny_bind; apply wpAny_nextOf_list_item i3' l3' hv
  intro g6 i3b s6
  apply wpAny_pure
  have b6 : But z TO j1 j2 j3 s.heap g6 := fun c o cz cO c1 c2 c3 q => s6.extBut _ _ c3 (b5 c o cz cO c1 c2 c3 q)
  have z6 : IsZip g6 z TI TO .ellipsis := s6.extBut _ _ D.z3 z5
  have O6 : Tri g6 TO x y c := s6.extBut _ _ D.O3 O5
  apply wpAny_bind; apply wpAny_seqItems O6 rfl
  apply wpAny_bind; apply put3 O6
  intro g7 O7 s7
  replace O7 : Tri g7 TO x y v := O7
  apply wpAny_bind; apply wpAny_letGo; apply wpAny_pure; apply wpAny_pure
  have b7 : But z TO j1 j2 j3 s.heap g7 := fun c o cz cO c1 c2 c3 q => s7.extBut _ _ cO (b6 c o cz cO c1 c2 c3 q)
  have z7 : IsZip g7 z TI TO .ellipsis := s7.extBut _ _ D.zO z6
  have i1e := (i1d.extBut s6.extBut D.e13).extBut s7.extBut D.O1.symm
  have i2d := (i2c.extBut s6.extBut D.e23).extBut s7.extBut D.O2.symm
  have i3c := i3b.extBut s7.extBut D.O3.symm
  have sz : g7.objs.size = s.heap.objs.size := by rw [s7.1, s6.1, s5.1, s4.1, s3.1, s2.1, s1.1]
  apply wpAny_bind; apply wpAny_seqItems O7 rfl
  apply wpAny_bind; refine wpAny_newTuple ?_
  have zlt : z < g7.objs.size := Heap.lt_size z7
  show wpAny _ _ (Builtin.SmallTypes.ownedTupleHandOut (.ref z) (.ref g7.objs.size) >>= _) _ _ _
  apply wpAny_bind
  unfold Builtin.SmallTypes.ownedTupleHandOut
  have z8 : IsZip (g7.push { cls := .type "tuple", data := .seq #[x, y, v] }) z TI TO .ellipsis := Heap.get?_push_of_some _ z7
  apply wpAny_bind; apply wpAny_setField_rec z8 (by simp)
  intro g9 z9 s9
  replace z9 : IsZip g9 z TI TO (rawInt g7.objs.size) := z9
  apply wpAny_setField_rec z9 (by simp)
  intro h z10 s10
  replace z10 : IsZip h z TI TO (rawInt g7.objs.size) := z10
  have up : ∀ c o, c ≠ z → g7.get? c = some o → h.get? c = some o := fun c o cz q => s10.extBut _ _ cz (s9.extBut _ _ cz (Heap.get?_push_of_some _ q))
  have nw : Tri h g7.objs.size x y v := s10.extBut _ _ (Nat.ne_of_gt zlt) (s9.extBut _ _ (Nat.ne_of_gt zlt) (Heap.get?_push_size _ rfl))
  have sz2 : h.objs.size = g7.objs.size + 1 := by rw [s10.1, s9.1, Heap.size_push]
  rw [sz] at z10 nw sz2
  apply wpAny_pure
  show Q (.done (.ret (.ref g7.objs.size))) _
  rw [sz]
  exact item x y v hx hy hv h z10 (up _ _ D.zO.symm O7) (i1e.at fun o q => up _ o D.z1.symm q) (i2d.at fun o q => up _ o D.z2.symm q) (i3c.at fun o q => up _ o D.z3.symm q) nw sz2 fun c o cz cO c1 c2 c3 q => up c o cz (b7 c o cz cO c1 c2 c3 q)
theorem next3 {z TI TO j1 j2 j3 m1 m2 m3 : Addr} {k : Nat} {xs ys zs : Array Value} {a b c : Value} {Q : Option Value → Shared → Prop} (D : Ap z TI TO j1 j2 j3 m1 m2 m3)
    (hz : IsZip s.heap z TI TO .none) (hI : Tri s.heap TI (.ref j1) (.ref j2) (.ref j3)) (hO : Tri s.heap TO a b c)
    (i1 : s.heap.IsListIter j1 m1 k) (i2 : s.heap.IsListIter j2 m2 k) (i3 : s.heap.IsListIter j3 m3 k) (l1 : s.heap.IsList m1 xs) (l2 : s.heap.IsList m2 ys) (l3 : s.heap.IsList m3 zs)
    (item : ∀ x y v, xs[k]? = some x → ys[k]? = some y → zs[k]? = some v → ∀ g, IsZip g z TI TO (rawInt s.heap.objs.size) → Tri g TO x y v → g.IsListIter j1 m1 (k + 1) → g.IsListIter j2 m2 (k + 1) → g.IsListIter j3 m3 (k + 1) → Tri g s.heap.objs.size x y v → g.objs.size = s.heap.objs.size + 1 →
      But z TO j1 j2 j3 s.heap g → Q (some (.ref s.heap.objs.size)) { s with heap := g })
    (hh : A.handled = none)
    (stop : (xs[k]? = none ∨ ys[k]? = none ∨ zs[k]? = none) → ∀ g, But z TO j1 j2 j3 s.heap g → Q none { s with heap := g }) :
    wpAny (model prog w) A (pyNext (.ref z)) Q E s := by
  have ty : s.TypeIs (.ref z) "zip" := ⟨_, hz, rfl⟩
  unfold pyNext
  apply wpAny_bind
  refine wpAny_attempt (wpAny_callSpecial?_slot (name := Str.ofString "__next__") ty F.slot_zip_next (wpAny_call_entry F.slot_zip_next ty F.entry_zip_next ?_ (F.args_zip_next_1 _)))
  refine first3 D hz hI hO i1 i2 i3 l1 l2 l3 (fun x y v e1 e2 e3 g q1 q2 q3 q4 q5 q6 q7 q8 => ⟨_, rfl, wpAny_pure (item x y v e1 e2 e3 g q1 q2 q3 q4 q5 q6 q7 q8)⟩) hh (fun he g e bb hs => ?_)
  obtain ⟨o, ho, hc⟩ := hs
  exact wpAny_bind (wpAny_isInstance (T := "StopIteration") (b := true) ⟨o, ho, hc⟩ isSubtype_stop (wpAny_pure (stop he g bb)))
end
theorem tcall3 (a b c : Value) : checkTypeCall "zip" ⟨[a, b, c], []⟩ = pure () := by kernel_rfl
theorem ncall3 (a b c : Value) : checkBuiltinCall "zip.__new__" ⟨[.type "zip", a, b, c], []⟩ = pure () := by kernel_rfl
theorem init4 (a b c d : Value) : argsOk "object.__init__" ⟨[a, b, c, d], []⟩ := by
  have o := F.owner_object
  unfold argsOk
  rw [signature?_of (id := "object.__init__") (n := '_' :: '_' :: 't' :: 'i' :: 'n' :: 'i' :: '_' :: '_' :: []) (o := 't' :: 'c' :: 'e' :: 'j' :: 'b' :: 'o' :: []) (by kernel_rfl) o]
  kernel_rfl
/-- an iterator over the list at m -/
abbrev itObj (m : Addr) : Obj := { cls := .type "list_iterator", data := .fields #[.ref m, .int 0 0] }
abbrev g1 (h : Heap) (m1 : Addr) : Heap := h.push (itObj m1)
abbrev g2 (h : Heap) (m1 m2 : Addr) : Heap := (g1 h m1).push (itObj m2)
abbrev g3 (h : Heap) (m1 m2 m3 : Addr) : Heap := (g2 h m1 m2).push (itObj m3)
abbrev g4 (h : Heap) (m1 m2 m3 : Addr) : Heap := (g3 h m1 m2 m3).push { cls := .type "tuple", data := .seq #[.ref h.objs.size, .ref (g1 h m1).objs.size, .ref (g2 h m1 m2).objs.size] }
abbrev g5 (h : Heap) (m1 m2 m3 : Addr) : Heap := (g4 h m1 m2 m3).push { cls := .type "tuple", data := .seq #[.none, .none, .none] }
abbrev g6 (h : Heap) (m1 m2 m3 : Addr) : Heap := (g5 h m1 m2 m3).push { cls := .type "zip", data := .fields #[.none, .bool false, .bool false, .ref (g3 h m1 m2 m3).objs.size, .ref (g4 h m1 m2 m3).objs.size] }
theorem new3 (m1 m2 m3 : Addr) (xs ys zs : Array Value) :
    Meets (Builtin.«zip.__new__» ⟨[.type "zip", .ref m1, .ref m2, .ref m3], []⟩) (fun _ R s => s.heap.IsList m1 xs ∧ s.heap.IsList m2 ys ∧ s.heap.IsList m3 zs ∧
      R (.ok (.ret (.ref (g5 s.heap m1 m2 m3).objs.size))) { s with heap := g6 s.heap m1 m2 m3 }) :=
  .of_wp fun prog w A R s h => by
    obtain ⟨hp, ge, d, tk, os⟩ := s
    obtain ⟨k1, k2, k3, h⟩ := h
    have sb := sub_zip
    have e1 : Heap.IsList (Shared.heap ⟨hp, ge, d, tk, os⟩) m1 xs := k1
    have e2 : Heap.IsList (Shared.heap ⟨g1 hp m1, ge, d, tk, os⟩) m2 ys := Heap.IsList.push k2 _
    have e3 : Heap.IsList (Shared.heap ⟨g2 hp m1 m2, ge, d, tk, os⟩) m3 zs := Heap.IsList.push (Heap.IsList.push k3 _) _
    wp_walk using wpAny_pyIter_list e1, wpAny_pyIter_list e2, wpAny_pyIter_list e3
    exact ⟨_, rfl, h⟩
section
variable {prog : Program} {w : World} {A : Around} {E : Value → Shared → Prop} {s : Shared}
theorem call3 {m1 m2 m3 : Addr} {xs ys zs : Array Value} {Q : Value → Shared → Prop} (k1 : s.heap.IsList m1 xs) (k2 : s.heap.IsList m2 ys) (k3 : s.heap.IsList m3 zs)
    (h : ∀ g, IsZip g (s.heap.objs.size + 5) (s.heap.objs.size + 3) (s.heap.objs.size + 4) .none → Tri g (s.heap.objs.size + 3) (.ref s.heap.objs.size) (.ref (s.heap.objs.size + 1)) (.ref (s.heap.objs.size + 2)) →
      Tri g (s.heap.objs.size + 4) .none .none .none → g.IsListIter s.heap.objs.size m1 0 → g.IsListIter (s.heap.objs.size + 1) m2 0 → g.IsListIter (s.heap.objs.size + 2) m3 0 → g.objs.size = s.heap.objs.size + 6 →
      (∀ c o, s.heap.get? c = some o → g.get? c = some o) → Q (.ref (s.heap.objs.size + 5)) { s with heap := g }) :
    wpAny (model prog w) A (call (.type "zip") [.ref m1, .ref m2, .ref m3]) Q E s := by
  refine callType_new F.called_zip (by decide) (tcall3 _ _ _) (ncall3 _ _ _) (fun obj => init4 obj _ _ _) F.entry_zip_new (new3 m1 m2 m3 xs ys zs) ⟨k1, k2, k3, ?_⟩
  have n1 : (g1 s.heap m1).objs.size = s.heap.objs.size + 1 := Heap.size_push ..
  have n2 : (g2 s.heap m1 m2).objs.size = s.heap.objs.size + 2 := by rw [Heap.size_push, n1]
  have n3 : (g3 s.heap m1 m2 m3).objs.size = s.heap.objs.size + 3 := by rw [Heap.size_push, n2]
  have n4 : (g4 s.heap m1 m2 m3).objs.size = s.heap.objs.size + 4 := by rw [Heap.size_push, n3]
  have n5 : (g5 s.heap m1 m2 m3).objs.size = s.heap.objs.size + 5 := by rw [Heap.size_push, n4]
  have n6 : (g6 s.heap m1 m2 m3).objs.size = s.heap.objs.size + 6 := by rw [Heap.size_push, n5]
  have p {h : Heap} {o o' : Obj} {c : Addr} (e : h.get? c = some o) : (h.push o').get? c = some o := Heap.get?_push_of_some _ e
  have t {h : Heap} {o : Obj} (f : o.isFreed = false) : (h.push o).get? h.objs.size = some o := Heap.get?_push_size _ f
  have q6 : (g6 s.heap m1 m2 m3).get? (g5 s.heap m1 m2 m3).objs.size = some _ := t rfl
  have q5 : (g6 s.heap m1 m2 m3).get? (g4 s.heap m1 m2 m3).objs.size = some _ := p (t rfl)
  have q4 : (g6 s.heap m1 m2 m3).get? (g3 s.heap m1 m2 m3).objs.size = some _ := p (p (t rfl))
  have q3 : (g6 s.heap m1 m2 m3).get? (g2 s.heap m1 m2).objs.size = some _ := p (p (p (t rfl)))
  have q2 : (g6 s.heap m1 m2 m3).get? (g1 s.heap m1).objs.size = some _ := p (p (p (p (t rfl))))
  have q1 : (g6 s.heap m1 m2 m3).get? s.heap.objs.size = some _ := p (p (p (p (p (t rfl)))))
  show _ ∧ _
  rw [n5, n3, n4] at q6
  rw [n4] at q5
  rw [n3, n1, n2] at q4
  rw [n2] at q3
  rw [n1] at q2
  rw [n5]
  exact ⟨⟨_, q6, rfl⟩, h _ q6 q4 q5 ⟨_, q1, rfl, rfl⟩ ⟨_, q2, rfl, rfl⟩ ⟨_, q3, rfl, rfl⟩ n6 fun c o e => p (p (p (p (p (p e)))))⟩
end
/-- the lists at a, b, c, as they stand at each turn, the items in new triples -/
def Itz3 (K : PySem.W.Frag) (a b c : Addr) : It :=
  ⟨fun i H => ∃ (xs ys zs : List V) (x y v : V), SqL K H a xs ∧ SqL K H b ys ∧ SqL K H c zs ∧ xs[i]? = some x ∧ ys[i]? = some y ∧ zs[i]? = some v,
    fun i H u H' => ∃ T x y v, u = .ref T ∧ H T = none ∧ H' = upd H T (.tup [x, y, v]) ∧ (∀ xs, SqL K H a xs → xs[i]? = some x) ∧ (∀ ys, SqL K H b ys → ys[i]? = some y) ∧ ∀ zs, SqL K H c zs → zs[i]? = some v,
    fun i H => ∃ xs ys zs : List V, SqL K H a xs ∧ SqL K H b ys ∧ SqL K H c zs ∧ (xs.length ≤ i ∨ ys.length ≤ i ∨ zs.length ≤ i)⟩
theorem arr_at {l : List Value} {i : Nat} : l.toArray[i]? = l[i]? := by simp
theorem turn3 {P : Program} {w : World} {K : PySem.W.Frag} {elts : List Expr} {kk : Nat} {tpos : Pos} {a b c z TI TO j1 j2 j3 : Addr} (D : Ap z TI TO j1 j2 j3 a b c) :
    Turn P w K (.Tuple elts kk tpos) (Itz3 K a b c) [z, TI, TO, j1, j2, j3] z (fun i h => IsZip h z TI TO .none ∧ Tri h TI (.ref j1) (.ref j2) (.ref j3) ∧ (∃ x y v, Tri h TO x y v) ∧ h.IsListIter j1 a i ∧ h.IsListIter j2 b i ∧ h.IsListIter j3 c i) where
  mem := List.mem_cons_self ..
  obj := by
    rintro i h ⟨hz, hI, ⟨x, y, v, hO⟩, ⟨o1, e1, _, d1⟩, ⟨o2, e2, _, d2⟩, ⟨o3, e3, _, d3⟩⟩ d hd
    simp only [List.mem_cons, List.not_mem_nil, or_false] at hd
    rcases hd with rfl | rfl | rfl | rfl | rfl | rfl
    · exact ⟨_, hz, fun _ q => nomatch q⟩
    · exact ⟨_, hI, fun _ q => nomatch q⟩
    · exact ⟨_, hO, fun _ q => nomatch q⟩
    · exact ⟨o1, e1, fun _ q => by rw [d1] at q; cases q⟩
    · exact ⟨o2, e2, fun _ q => by rw [d2] at q; cases q⟩
    · exact ⟨o3, e3, fun _ q => by rw [d3] at q; cases q⟩
  keep := by
    rintro i h g ⟨hz, hI, ⟨x, y, v, hO⟩, h1, h2, h3⟩ k
    exact ⟨k z (by simp) _ hz, k TI (by simp) _ hI, ⟨x, y, v, k TO (by simp) _ hO⟩, h1.at fun o q => k j1 (by simp) o q, h2.at fun o q => k j2 (by simp) o q, h3.at fun o q => k j3 (by simp) o q⟩
  item := by
    intro X hP hw hK hc i pins s σ H E I hf st hg
    subst hP hw hK
    obtain ⟨hz, hI, ⟨x0, y0, v0, hO⟩, h1, h2, h3⟩ := st
    obtain ⟨xs, ys, zs, x, y, v, sx, sy, sv, hx, hy, hv⟩ := hg
    obtain ⟨us, r1, p1, _⟩ := I.list sx
    obtain ⟨vs, r2, p2, _⟩ := I.list sy
    obtain ⟨ws, r3, p3, _⟩ := I.list sv
    obtain ⟨u1, hu1, ru1⟩ := r1.get hx
    obtain ⟨u2, hu2, ru2⟩ := r2.get hy
    obtain ⟨u3, hu3, ru3⟩ := r3.get hv
    have zl : z < s.heap.objs.size := Heap.lt_size hz
    refine next3 D hz hI hO h1 h2 h3 p1.isList p2.isList p3.isList ?_ (I.ok.hd hc) ?_
    · intro x' y' v' e1 e2 e3 g gz gO gi1 gi2 gi3 gT gs bb
      rw [arr_at, hu1] at e1
      rw [arr_at, hu2] at e2
      rw [arr_at, hu3] at e3
      cases e1; cases e2; cases e3
      refine ⟨_, rfl, wpAny_letOwnedTupleGo_zip (s := { s with heap := g }) gz fun h' hz' sb => ?_⟩
      have nT : h'.get? s.heap.objs.size = some { cls := .type "tuple", data := .seq #[u1, u2, u3] } := (sb.2 _ (Nat.ne_of_gt zl)).trans gT
      have ok : ObjOk X.prog X.w (upd H s.heap.objs.size (.tup [x, y, v])) h' s.heap.objs.size (.tup [x, y, v]) := ⟨by show 3 ≤ sizeLine; decide, [u1, u2, u3], .cons ru1 (.cons ru2 (.cons ru3 .nil)), ⟨_, nT, rfl, _, rfl⟩⟩
      have I1 : Inv X pins σ (upd H s.heap.objs.size (.tup [x, y, v])) { s with heap := h' } := by
        refine I.turnedNew (t' := s.toks) (ch := [z, TI, TO, j1, j2, j3]) (fun d o hb q => ?_) hf (Nat.le_refl _) ok
        have out : ∀ e, e ∈ [z, TI, TO, j1, j2, j3] → d ≠ e := fun e he q' => hb (q' ▸ he)
        exact (sb.2 d (out z (by simp))).trans (bb d o (out z (by simp)) (out TO (by simp)) (out j1 (by simp)) (out j2 (by simp)) (out j3 (by simp)) q)
      have cl : ∀ d ∈ [z, TI, TO, j1, j2, j3], d < s.heap.objs.size := by
        intro d hd
        simp only [List.mem_cons, List.not_mem_nil, or_false] at hd
        rcases hd with rfl | rfl | rfl | rfl | rfl | rfl
        · exact zl
        · exact Heap.lt_size hI
        · exact Heap.lt_size hO
        · obtain ⟨_, e, _⟩ := h1; exact Heap.lt_size e
        · obtain ⟨_, e, _⟩ := h2; exact Heap.lt_size e
        · obtain ⟨_, e, _⟩ := h3; exact Heap.lt_size e
      refine ⟨.ref s.heap.objs.size, _, I1, rfl, ⟨_, x, y, v, rfl, I.hok.fresh (Nat.le_refl _), rfl, fun l hl => by rw [I.list_inj hl sx]; exact hx, fun l hl => by rw [I.list_inj hl sy]; exact hy, fun l hl => by rw [I.list_inj hl sv]; exact hv⟩, ⟨hz', ?_, ⟨u1, u2, u3, ?_⟩, ?_, ?_, ?_⟩, fun d hd => ?_⟩
      · exact (sb.2 _ D.I.1).trans (bb _ _ D.I.1 D.I.2.1 D.I.2.2.1 D.I.2.2.2.1 D.I.2.2.2.2 hI)
      · exact (sb.2 _ D.zO.symm).trans gO
      · exact gi1.at fun o q => (sb.2 _ D.z1.symm).trans q
      · exact gi2.at fun o q => (sb.2 _ D.z2.symm).trans q
      · exact gi3.at fun o q => (sb.2 _ D.z3.symm).trans q
      · rw [upd_ne (Nat.ne_of_lt (cl d hd))]
        exact (hf d hd).1
    · intro he g bb
      rw [arr_at, arr_at, arr_at, hu1, hu2, hu3] at he
      rcases he with q | q | q <;> cases q
  done := by
    intro X hP hw hK hc i pins s σ H E I hf st hg
    subst hP hw hK
    obtain ⟨hz, hI, ⟨x0, y0, v0, hO⟩, h1, h2, h3⟩ := st
    obtain ⟨xs, ys, zs, sx, sy, sv, hend⟩ := hg
    obtain ⟨us, r1, p1, _⟩ := I.list sx
    obtain ⟨vs, r2, p2, _⟩ := I.list sy
    obtain ⟨ws, r3, p3, _⟩ := I.list sv
    have n1 := r1.length
    have n2 := r2.length
    have n3 := r3.length
    refine next3 D hz hI hO h1 h2 h3 p1.isList p2.isList p3.isList ?_ (I.ok.hd hc) ?_
    · intro x y v e1 e2 e3
      rw [arr_at] at e1 e2 e3
      have k1 := (List.getElem?_eq_some_iff.mp e1).1
      have k2 := (List.getElem?_eq_some_iff.mp e2).1
      have k3 := (List.getElem?_eq_some_iff.mp e3).1
      exfalso
      omega
    · intro _ g bb
      refine ⟨rfl, I.turnedL (t' := s.toks) (ch := [z, TI, TO, j1, j2, j3]) (fun d o hb q => ?_) hf⟩
      have out : ∀ e, e ∈ [z, TI, TO, j1, j2, j3] → d ≠ e := fun e he q' => hb (q' ▸ he)
      exact bb d o (out z (by simp)) (out TO (by simp)) (out j1 (by simp)) (out j2 (by simp)) (out j3 (by simp)) q
  self := fun A i s Q E st h => wpAny_pyIter_zip st.1 h
def iZip3 (K : PySem.W.Frag) (ta : TA) : TI := fun σ H R => ta σ H fun vs H1 => ∃ a b c xs ys zs, vs = [.ref a, .ref b, .ref c] ∧ SqL K H1 a xs ∧ SqL K H1 b ys ∧ SqL K H1 c zs ∧ R (Itz3 K a b c) H1
theorem pi_zip3 {X : Cx} {e1 e2 e3 : Expr} {ta : TA} {p pos tpos : Pos} {elts : List Expr} {kk : Nat} (hg : Gl X "zip") (hm : X.mg "zip" = none) (ha : PA X [e1, e2, e3] ta)
    (hs : starEach [e1, e2, e3] X.env = (false, eval e1 X.env) :: starEach [e2, e3] X.env := by rfl) (hpl : (backTo pos (starEach [e2, e3] X.env)).any (·.1) = false := by rfl) :
    PI X (.Tuple elts kk tpos) (.Call (.Name "zip" p) [e1, e2, e3] [] pos) (iZip3 X.K ta) := by
  constructor
  intro pins s σ H R I h
  refine Call_ (ld_blt I hg hm PyProof.Rows.boot_zip (PyProof.Rows.callWith_type1 (thn (ha.run pos pins s σ H _ I h) ?_) hs hpl))
  rintro us s1 ⟨vs, H1, I1, r1, a, b, c, xs, ys, zs, rfl, sx, sy, sv, q⟩
  rcases r1 with _ | ⟨ra, _ | ⟨rb, _ | ⟨rc, _ | _⟩⟩⟩
  cases ra; cases rb; cases rc
  obtain ⟨u1, _, p1, _⟩ := I1.list sx
  obtain ⟨u2, _, p2, _⟩ := I1.list sy
  obtain ⟨u3, _, p3, _⟩ := I1.list sv
  refine call3 p1.isList p2.isList p3.isList ?_
  intro g gz gI gO k1 k2 k3 _ kp
  refine wpAny_pyIter_zip gz ?_
  have I2 : Inv X pins σ H1 { s1 with heap := g } := I1.kept (t' := s1.toks) kp
  refine ⟨s1.heap.objs.size + 5, [s1.heap.objs.size + 5, s1.heap.objs.size + 3, s1.heap.objs.size + 4, s1.heap.objs.size, s1.heap.objs.size + 1, s1.heap.objs.size + 2], _, _, H1, rfl, I2, turn3 (ap_of p1.lt p2.lt p3.lt), ⟨gz, gI, ⟨_, _, _, gO⟩, k1, k2, k3⟩, fun d hd => ?_, q⟩
  have le : s1.heap.objs.size ≤ d := by
    simp only [List.mem_cons, List.not_mem_nil, or_false] at hd
    rcases hd with rfl | rfl | rfl | rfl | rfl | rfl <;> first | exact Nat.le_refl _ | exact Nat.le_add_right _ _
  exact I1.fpOk le (I1.hok.fresh le)
end ZI

set_option Elab.async false
set_option linter.all false
set_option maxRecDepth 100000
set_option maxHeartbeats 2000000
/-! MF: zip of three. -/
namespace R
open PySem PySem.Spec PyProof.Rows L2 Z
section
variable {K : PySem.W.Frag}
def zip3D : List PyData → List PyData → List PyData → List PyData
  | d :: ds, e :: es, f :: fs => .tuple [d, e, f] :: zip3D ds es fs
  | _, _, _ => []
theorem zip3D_len : ∀ (ds es fs : List PyData), (zip3D ds es fs).length = min ds.length (min es.length fs.length)
  | [], es, fs => by simp [zip3D]
  | d :: ds, [], fs => by simp [zip3D]
  | d :: ds, e :: es, [] => by simp [zip3D]
  | d :: ds, e :: es, f :: fs => by
    show (zip3D ds es fs).length + 1 = _
    rw [zip3D_len ds es fs]
    simp only [List.length_cons]
    omega
theorem zip3D_get : ∀ (ds es fs : List PyData) (i : Nat) (h : i < (zip3D ds es fs).length) (h1 : i < ds.length) (h2 : i < es.length) (h3 : i < fs.length), (zip3D ds es fs)[i] = .tuple [ds[i], es[i], fs[i]]
  | [], es, fs, i, h, h1, h2, h3 => absurd h1 (Nat.not_lt_zero _)
  | d :: ds, [], fs, i, h, h1, h2, h3 => absurd h2 (Nat.not_lt_zero _)
  | d :: ds, e :: es, [], i, h, h1, h2, h3 => absurd h3 (Nat.not_lt_zero _)
  | d :: ds, e :: es, f :: fs, 0, h, h1, h2, h3 => rfl
  | d :: ds, e :: es, f :: fs, i + 1, h, h1, h2, h3 => zip3D_get ds es fs i (by simpa [zip3D] using h) (by simpa using h1) (by simpa using h2) (by simpa using h3)
def XI.zip3 (a b c : XE K) : XI K where
  ti := fun md => ZI.iZip3 K (tCons (a.te md) (tCons (b.te md) (tCons (c.te md) tNil)))
  ev := fun st => match a.es st, b.es st, c.es st with
    | some ds, some es, some fs => .ok (zip3D ds es fs)
    | _, _, _ => .no
  ok := fun md st => by
    split
    · rename_i ds es fs h1 h2 h3
      have o1 := a.oks md st ds h1
      have o2 := b.oks md st es h2
      have o3 := c.oks md st fs h3
      exact ⟨fun {G σ L0 H} Q s q => o1.run _ s fun G1 H1 a1 vs e1 s1 c1 d1 => o2.run _ s1 fun G2 H2 a2 ws e2 s2 c2 d2 => o3.run _ s2 fun G3 H3 a3 us e3 s3 c3 d3 => by
        obtain ⟨L, sl, la⟩ := id s3
        have k1 := e2.trans e3
        refine ⟨a1, a2, a3, vs, ws, us, rfl, c1 _ _ _ k1 la, c2 _ _ _ e3 la, c3 _ _ _ (Same.refl _) la, q G3 H3 _ (e1.trans k1) s3 ⟨fun i G L H e4 l hi => ?_, fun i G L H e4 l hi => ?_⟩⟩
        · have hi2 := hi
          rw [zip3D_len] at hi2
          have i1 : i < ds.length := by omega
          have i2 : i < es.length := by omega
          have i3 : i < fs.length := by omega
          have q1 := c1 _ _ _ (k1.trans e4) l
          have q2 := c2 _ _ _ (e3.trans e4) l
          have q3 := c3 _ _ _ e4 l
          obtain ⟨v, hv, dv⟩ := dpAll_get d1 (List.getElem?_eq_getElem i1)
          obtain ⟨w, hw, dw⟩ := dpAll_get d2 (List.getElem?_eq_getElem i2)
          obtain ⟨u, hu, du⟩ := dpAll_get d3 (List.getElem?_eq_getElem i3)
          refine ⟨⟨vs, ws, us, v, w, u, q1, q2, q3, hv, hw, hu⟩, fun x H' y => ?_⟩
          obtain ⟨T, x1, x2, x3, rfl, hT, rfl, y1, y2, y3⟩ := y
          cases Option.some.inj ((y1 vs q1).symm.trans hv)
          cases Option.some.inj ((y2 ws q2).symm.trans hw)
          cases Option.some.inj ((y3 us q3).symm.trans hu)
          have g := same_upd (o := .tup [v, w, u]) (l.freshG hT)
          refine ⟨_, g, fun L l => l.grow hT, ?_⟩
          rw [zip3D_get ds es fs i hi i1 i2 i3]
          exact Dq.tup upd_same (.cons (dp_up ((k1.trans e4).trans g) dv) (.cons (dp_up ((e3.trans e4).trans g) dw) (.cons (dp_up (e4.trans g) du) .nil)))
        · refine ⟨vs, ws, us, c1 _ _ _ (k1.trans e4) l, c2 _ _ _ (e3.trans e4) l, c3 _ _ _ e4 l, ?_⟩
          rw [zip3D_len] at hi
          rw [dpAll_len d1, dpAll_len d2, dpAll_len d3]
          omega⟩
    · trivial
end
section
variable {K : PySem.W.Frag} {α β γ : Type} {st : List Sv}
def zip3 (xs : List α) (ys : List β) (zs : List γ) : List (α × β × γ) := xs.zip (ys.zip zs)
theorem zip3D_map {f : α → PyData} {g : β → PyData} {h : γ → PyData} : ∀ (xs : List α) (ys : List β) (zs : List γ), zip3D (xs.map f) (ys.map g) (zs.map h) = (zip3 xs ys zs).map fun p => .tuple [f p.1, g p.2.1, h p.2.2]
  | [], ys, zs => by cases ys <;> cases zs <;> rfl
  | x :: xs, [], zs => by cases zs <;> rfl
  | x :: xs, y :: ys, [] => rfl
  | x :: xs, y :: ys, z :: zs => by
    show PyData.tuple [f x, g y, h z] :: zip3D (xs.map f) (ys.map g) (zs.map h) = _
    rw [zip3D_map xs ys zs]
    rfl
theorem si_zip3 {E : En α} {F : En β} {G : En γ} {x y z : XE K} {m : Rs (List α)} {n : Rs (List β)} {o : Rs (List γ)} (h : SW (List.map E.e) x st m) (h2 : SW (List.map F.e) y st n) (h3 : SW (List.map G.e) z st o) : SI (List.map (eT3 E F G).e) (.zip3 x y z) st ((qu m).bind fun xs => (qu n).bind fun ys => (qu o).bind fun zs => .ok (zip3 xs ys zs)) := by
  cases m with
  | ex _ _ => trivial
  | no => trivial
  | ok xs =>
    cases n with
    | ex _ _ => trivial
    | no => trivial
    | ok ys =>
      cases o with
      | ex _ _ => trivial
      | no => trivial
      | ok zs =>
        have h : x.es st = some (xs.map E.e) := h
        have h2 : y.es st = some (ys.map F.e) := h2
        have h3 : z.es st = some (zs.map G.e) := h3
        show (match x.es st, y.es st, z.es st with
    | some ds, some es, some fs => Rs.ok (zip3D ds es fs)
    | _, _, _ => .no) = _
        rw [h, h2, h3]
        show Rs.ok (zip3D (xs.map E.e) (ys.map F.e) (zs.map G.e)) = _
        rw [zip3D_map]
        rfl
theorem kpi_zip3 (K : PySem.W.Frag) {X : Cx} {e1 e2 e3 : Expr} {ta : TA} {p pos tpos : Pos} {elts : List Expr} {kk : Nat} (hg : Gl X "zip") (hm : X.mg "zip" = none) (ha : PA X [e1, e2, e3] ta)
    (hs : starEach [e1, e2, e3] X.env = (false, eval e1 X.env) :: starEach [e2, e3] X.env := by rfl) (hpl : (backTo pos (starEach [e2, e3] X.env)).any (·.1) = false := by rfl) (h : X.K = K := by rfl) :
    PI X (.Tuple elts kk tpos) (.Call (.Name "zip" p) [e1, e2, e3] [] pos) (ZI.iZip3 K ta) := by subst h; exact ZI.pi_zip3 hg hm ha hs hpl
end
end R

set_option Elab.async false
set_option linter.all false
set_option maxRecDepth 100000
set_option maxHeartbeats 2000000
/-! MX: reckoning with mirrors -/
namespace R
open PySem PySem.Spec PyProof.Rows L2 Z
section
variable {α β γ σ τ : Type}
theorem ok_bind {a : α} {f : α → Rs β} : (Rs.ok a).bind f = f a := rfl
theorem ex_bind {C : Addr} {n : Int} {f : α → Rs β} : (Rs.ex C n).bind f = .ex C n := rfl
theorem grd_t {c : Prop} [Decidable c] {m : Rs α} (h : c) : grd c m = m := if_pos h
theorem bind_eq {m : Rs α} {a : α} {f : α → Rs β} (h : m = .ok a) : m.bind f = f a := by rw [h]; rfl
theorem bind_to {m : Rs α} {a : α} {f : α → Rs β} {r : Rs β} (h : m = .ok a) (k : f a = r) : m.bind f = r := by rw [h]; exact k
theorem bindJ_nx {t : τ} {g : τ → Rs α} : bindJ (.ok (.nx t)) g = g t := rfl
theorem bindJ_ex {a : α} {g : τ → Rs α} : bindJ (.ok (.ex a)) g = .ok a := rfl
theorem ixN_in {n : Nat} {i : Int} (h0 : 0 ≤ i) (h : i < n) : ixN n i = some i.toNat := by
  unfold ixN
  rw [if_pos h0, if_pos (by omega)]
theorem ix_n {xs : List α} {i : Int} {a : α} (h0 : 0 ≤ i) (h : xs[i.toNat]? = some a) : ixC xs i = .ok a := by
  obtain ⟨hl, _⟩ := List.getElem?_eq_some_iff.mp h
  unfold ixC atI
  rw [ixN_in h0 (by omega)]
  show Rs.of (xs[i.toNat]?) = _
  rw [h]; rfl
theorem ix_d {xs : List α} {i : Int} (d : α) (h0 : 0 ≤ i) (h : i < xs.length) : ixC xs i = .ok (xs.getD i.toNat d) := by
  refine ix_n h0 ?_
  have : i.toNat < xs.length := by omega
  rw [List.getD_eq_getElem?_getD, List.getElem?_eq_getElem this]; rfl
theorem ix_k {xs : List α} {k : Nat} (d : α) (h : k < xs.length) : ixC xs (k : Int) = .ok (xs.getD k d) := by
  have := ix_d (xs := xs) (i := (k : Int)) d (by omega) (by omega)
  rw [this]
  rfl
theorem gD_mem {xs : List α} {k : Nat} {d : α} (h : k < xs.length) : xs.getD k d ∈ xs := by
  rw [List.getD_eq_getElem?_getD, List.getElem?_eq_getElem h]
  exact List.getElem_mem h
theorem set_ok {xs : List α} {i : Int} {a : α} (h0 : 0 ≤ i) (h : i < xs.length) : setC xs i a = .ok (xs.set i.toNat a) := by
  unfold setC
  rw [ixN_in h0 h]
theorem push_ok {xs : List α} {a : α} (h : xs.length < 1000000) : pushC xs a = .ok (xs ++ [a]) := grd_t h
theorem cat_ok {xs ys : List α} (h : xs.length + ys.length ≤ 1000000) : catC xs ys = .ok (xs ++ ys) := grd_t h
theorem rep_ok {a : α} {k : Nat} (h : k ≤ 1000000) : repC [a] (k : Int) = .ok (List.replicate k a) := by
  unfold repC
  have e : ((k : Nat) : Int).toNat = k := rfl
  rw [grd_t (by rw [e]; exact ⟨by simp only [List.length_cons, List.length_nil]; omega, by omega⟩), e]
  congr 1
  induction k with
  | zero => rfl
  | succ k ih => rw [List.replicate_succ, List.flatten_cons, ih (by omega) rfl]; rfl
theorem mod_ok {x y : Int} (h : 0 < y) : modC x y = .ok (x % y) := grd_t h
theorem mul_l {x y : Int} (h : x.natAbs < 18446744073709551616) : mulC x y = .ok (x * y) := grd_t (.inl h)
theorem mul_r {x y : Int} (h : y.natAbs < 18446744073709551616) : mulC x y = .ok (x * y) := grd_t (.inr (.inl h))
theorem div_ok {x y : Int} (h : 0 < y) (h2 : y.natAbs < 18446744073709551616) : divC x y = .ok (x / y) := grd_t (div_lit ⟨h, h2⟩)
theorem log_lt {n : Nat} (h : n < 18446744073709551616) : n.log2 < 9000 := by
  by_cases z : n = 0
  · rw [z]; decide
  · have : n.log2 < 64 := (Nat.log2_lt z).mpr h
    omega
theorem divU_ok {x y : Int} (h : y ≠ 0) (h2 : y.natAbs < 18446744073709551616) : divUC x y = .ok (x.fdiv y) := grd_t ⟨h, log_lt h2⟩
theorem lcm_ok {x y : Int} (h : x.natAbs < 18446744073709551616) (h2 : y.natAbs < 18446744073709551616) : lcmC x y = .ok ((Int.lcm x y : Nat) : Int) := grd_t ⟨log_lt h, log_lt h2⟩
theorem rng_ok {n : Int} (h : n.natAbs < 4611686018427387904) : rng1C n = .ok (rngL 0 n) := grd_t h
/-- the numbers below n -/
def upto (n : Nat) : List Int := (List.range n).map fun (k : Nat) => (k : Int)
theorem rngL_upto {n : Nat} : rngL 0 (n : Int) = upto n := by
  unfold rngL upto
  rw [Int.sub_zero]
  show (List.range n).map _ = _
  congr 1
  funext k
  omega
theorem rng_up {n : Nat} (h : n < 4611686018427387904) : rng1C (n : Int) = .ok (upto n) := by
  rw [rng_ok (by omega), rngL_upto]
theorem upto_len {n : Nat} : (upto n).length = n := by unfold upto; simp
theorem upto_succ {n : Nat} : upto (n + 1) = upto n ++ [(n : Int)] := by unfold upto; rw [List.range_succ, List.map_append]; rfl
theorem mem_upto {n : Nat} {i : Int} : i ∈ upto n ↔ 0 ≤ i ∧ i < n := by
  unfold upto
  rw [List.mem_map]
  constructor
  · rintro ⟨k, hk, rfl⟩
    have := List.mem_range.mp hk
    omega
  · intro h
    exact ⟨i.toNat, List.mem_range.mpr (by omega), by omega⟩
theorem map_upto {n : Nat} {f : Int → β} : (upto n).map f = (List.range n).map fun (k : Nat) => f (k : Int) := by unfold upto; rw [List.map_map]; rfl
/-- comprehensions -/
theorem lcG_ok {p : α → Rs Bool} {q : α → Rs β} {f : α → β} : ∀ xs : List α, (∀ a ∈ xs, p a = .ok true ∧ q a = .ok (f a)) → lcG p q xs = .ok (xs.map f)
  | [], _ => rfl
  | a :: as, h => by
    rw [lcG, (h a (List.mem_cons_self ..)).1, qu_ok, ok_bind, if_pos rfl, (h a (List.mem_cons_self ..)).2, qu_ok, ok_bind, lcG_ok as fun x hx => h x (List.mem_cons_of_mem _ hx)]
    rfl
theorem lc_ok {xs : List α} {q : α → Rs β} (f : α → β) (hl : xs.length ≤ 100000) (h : ∀ a ∈ xs, q a = .ok (f a)) : lcM xs (fun _ => .ok true) q = .ok (xs.map f) := by
  unfold lcM
  rw [grd_t hl]
  exact lcG_ok xs fun a ha => ⟨rfl, h a ha⟩
theorem lc_up {n : Nat} {q : Int → Rs β} (f : Nat → β) (hl : n ≤ 100000) (h : ∀ k : Nat, k < n → q (k : Int) = .ok (f k)) : lcM (upto n) (fun _ => .ok true) q = .ok ((List.range n).map f) := by
  rw [lc_ok (fun i => f i.toNat) (by rw [upto_len]; exact hl), map_upto]
  · rfl
  · intro i hi
    have := mem_upto.mp hi
    have e : ((i.toNat : Nat) : Int) = i := by omega
    have := h i.toNat (by omega)
    rw [e] at this
    exact this
theorem lcG_flt {p : α → Rs Bool} {q : α → Rs β} {c : α → Bool} {f : α → β} : ∀ xs : List α, (∀ a ∈ xs, p a = .ok (c a) ∧ q a = .ok (f a)) → lcG p q xs = .ok ((xs.filter c).map f)
  | [], _ => rfl
  | a :: as, h => by
    have ih := lcG_flt as fun x hx => h x (List.mem_cons_of_mem _ hx)
    have h1 := h a (List.mem_cons_self ..)
    rw [lcG, h1.1, qu_ok, ok_bind]
    cases hc : c a with
    | true => rw [if_pos rfl, h1.2, qu_ok, ok_bind, ih, List.filter_cons, hc]; rfl
    | false => rw [if_neg (fun z => nomatch z), ih, List.filter_cons, hc]; rfl
theorem lc_flt {xs : List α} {p : α → Rs Bool} {q : α → Rs β} (c : α → Bool) (f : α → β) (hl : xs.length ≤ 100000) (h : ∀ a ∈ xs, p a = .ok (c a) ∧ q a = .ok (f a)) : lcM xs p q = .ok ((xs.filter c).map f) := by
  unfold lcM
  rw [grd_t hl]
  exact lcG_flt xs h
/-- loops -/
theorem for_fold {f : α → σ → Rs σ} (g : σ → α → σ) : ∀ (xs : List α) (s : σ), (∀ a ∈ xs, ∀ s, f a s = .ok (g s a)) → forR f xs s = .ok (xs.foldl g s)
  | [], s, _ => rfl
  | a :: as, s, h => by
    rw [forR, h a (List.mem_cons_self ..), ok_bind, for_fold g as _ fun x hx => h x (List.mem_cons_of_mem _ hx)]
    rfl
theorem for_inv {f : α → σ → Rs σ} (I : List α → σ → Prop) {xs : List α} {s : σ} (h0 : I [] s) (h : ∀ pre a suf s, xs = pre ++ a :: suf → I pre s → ∃ s', f a s = .ok s' ∧ I (pre ++ [a]) s') : ∃ s', forR f xs s = .ok s' ∧ I xs s' := by
  have : ∀ (suf pre : List α) (s : σ), xs = pre ++ suf → I pre s → ∃ s', forR f suf s = .ok s' ∧ I xs s' := by
    intro suf
    induction suf with
    | nil => intro pre s e i; rw [List.append_nil] at e; subst e; exact ⟨s, rfl, i⟩
    | cons a suf ih =>
      intro pre s e i
      obtain ⟨s', h1, h2⟩ := h pre a suf s e i
      obtain ⟨s2, h3, h4⟩ := ih (pre ++ [a]) s' (by rw [e, List.append_assoc]; rfl) h2
      exact ⟨s2, by rw [forR, h1, ok_bind, h3], h4⟩
  exact this xs [] s rfl h0
theorem for_upto {f : Int → σ → Rs σ} {n : Nat} (I : Nat → σ → Prop) {s : σ} (h0 : I 0 s) (h : ∀ k s, k < n → I k s → ∃ s', f (k : Int) s = .ok s' ∧ I (k + 1) s') : ∃ s', forR f (upto n) s = .ok s' ∧ I n s' := by
  obtain ⟨s', h1, h2⟩ := for_inv (f := f) (xs := upto n) (fun pre s => I pre.length s) h0 (by
    intro pre a suf s e i
    have hl : pre.length < n := by have := congrArg List.length e; rw [upto_len, List.length_append, List.length_cons] at this; omega
    have ha : a = (pre.length : Int) := by
      have h2 : (upto n)[pre.length]? = some a := by rw [e]; simp
      unfold upto at h2
      rw [List.getElem?_map, List.getElem?_range hl] at h2
      exact (Option.some.inj h2).symm
    obtain ⟨s', h1, h2⟩ := h _ s hl i
    exact ⟨s', by rw [ha]; exact h1, by rw [List.length_append]; exact h2⟩)
  rw [upto_len] at h2
  exact ⟨s', h1, h2⟩
theorem forJ_nx {f : α → σ → Rs (LO σ β)} (I : List α → σ → Prop) {xs : List α} {s : σ} (h0 : I [] s) (h : ∀ pre a suf s, xs = pre ++ a :: suf → I pre s → ∃ s', f a s = .ok (.nx s') ∧ I (pre ++ [a]) s') : ∃ s', forJ f xs s = .ok (.nx s') ∧ I xs s' := by
  have : ∀ (suf pre : List α) (s : σ), xs = pre ++ suf → I pre s → ∃ s', forJ f suf s = .ok (.nx s') ∧ I xs s' := by
    intro suf
    induction suf with
    | nil => intro pre s e i; rw [List.append_nil] at e; subst e; exact ⟨s, rfl, i⟩
    | cons a suf ih =>
      intro pre s e i
      obtain ⟨s', h1, h2⟩ := h pre a suf s e i
      obtain ⟨s2, h3, h4⟩ := ih (pre ++ [a]) s' (by rw [e, List.append_assoc]; rfl) h2
      exact ⟨s2, by rw [forJ, h1, ok_bind]; exact h3, h4⟩
  exact this xs [] s rfl h0
/-- a walk that asks of each item, and tells a value of the first that fails -/
theorem forJ_all {f : α → Unit → Rs (LO Unit β)} {c : α → Bool} {b : β} : ∀ xs : List α, (∀ a ∈ xs, f a () = .ok (if c a = true then .nx () else .ex b)) → forJ f xs () = .ok (if xs.all c = true then .nx () else .ex b)
  | [], _ => rfl
  | a :: as, h => by
    rw [forJ, h a (List.mem_cons_self ..), ok_bind, List.all_cons]
    cases hc : c a with
    | true => rw [if_pos rfl]; exact forJ_all as fun x hx => h x (List.mem_cons_of_mem _ hx)
    | false => rfl
theorem bJ_all {m : Rs (J Unit Bool)} {b : Bool} (h : m = .ok (if b = true then .nx () else .ex false)) : bindJ m (fun _ => Rs.ok true) = .ok b := by
  rw [h]
  cases b <;> rfl
end
end R

set_option Elab.async false
set_option linter.all false
set_option maxRecDepth 100000
set_option maxHeartbeats 4000000
namespace Q
open PySem PySem.Spec PyProof.Rows L2 Z R
def topS (i : Nat) : Stmt := PySem.Challenge.pw_trunkweb_k65_bounds_under_fixings.main.body.getD i (.Pass ⟨0, 0, 0, 0⟩)
abbrev s_WebError___init__ : Stmt := inClass (topS 2) 0
abbrev N_WebError___init__ : List Str := ["self", "at"]
theorem sc_WebError___init__ : FnScope ["self", "at"] ["self", "at"] (defScope s_WebError___init__) := ⟨rfl, rfl, rfl, by decide +kernel, rfl, by decide +kernel, by decide +kernel⟩
abbrev s_fraction : Stmt := topS 10
abbrev N_fraction : List Str := ["numerator", "denominator", "common"]
theorem sc_fraction : FnScope ["numerator", "denominator", "common"] ["numerator", "denominator"] (defScope s_fraction) := ⟨rfl, rfl, rfl, by decide +kernel, rfl, by decide +kernel, by decide +kernel⟩
abbrev s_minus : Stmt := topS 11
abbrev N_minus : List Str := ["first", "second"]
theorem sc_minus : FnScope ["first", "second"] ["first", "second"] (defScope s_minus) := ⟨rfl, rfl, rfl, by decide +kernel, rfl, by decide +kernel, by decide +kernel⟩
abbrev s_ceiling : Stmt := topS 12
abbrev N_ceiling : List Str := ["pair"]
theorem sc_ceiling : FnScope ["pair"] ["pair"] (defScope s_ceiling) := ⟨rfl, rfl, rfl, by decide +kernel, rfl, by decide +kernel, by decide +kernel⟩
abbrev s_scaled : Stmt := topS 13
abbrev N_scaled : List Str := ["fractions", "scale", "pair"]
theorem sc_scaled : FnScope ["fractions", "scale", "pair"] ["fractions"] (defScope s_scaled) := ⟨rfl, rfl, rfl, by decide +kernel, rfl, by decide +kernel, by decide +kernel⟩
abbrev s_added : Stmt := topS 14
abbrev N_added : List Str := ["fractions", "numerators", "scale"]
theorem sc_added : FnScope ["fractions", "numerators", "scale"] ["fractions"] (defScope s_added) := ⟨rfl, rfl, rfl, by decide +kernel, rfl, by decide +kernel, by decide +kernel⟩
abbrev s_Program___init__ : Stmt := inClass (topS 19) 0
abbrev N_Program___init__ : List Str := ["self", "prices", "rows", "at", "numbers", "relation", "_", "bound"]
theorem sc_Program___init__ : FnScope ["self", "prices", "rows", "at", "numbers", "relation", "_", "bound"] ["self", "prices", "rows"] (defScope s_Program___init__) := ⟨rfl, rfl, rfl, by decide +kernel, rfl, by decide +kernel, by decide +kernel⟩
abbrev s_Program_count : Stmt := inClass (topS 19) 1
abbrev N_Program_count : List Str := ["self"]
theorem sc_Program_count : FnScope ["self"] ["self"] (defScope s_Program_count) := ⟨rfl, rfl, rfl, by decide +kernel, rfl, by decide +kernel, by decide +kernel⟩
abbrev s_Program_prices : Stmt := inClass (topS 19) 2
abbrev N_Program_prices : List Str := ["self"]
theorem sc_Program_prices : FnScope ["self"] ["self"] (defScope s_Program_prices) := ⟨rfl, rfl, rfl, by decide +kernel, rfl, by decide +kernel, by decide +kernel⟩
abbrev s_Program_rows : Stmt := inClass (topS 19) 3
abbrev N_Program_rows : List Str := ["self", "numbers", "relation", "bound"]
theorem sc_Program_rows : FnScope ["self", "numbers", "relation", "bound"] ["self"] (defScope s_Program_rows) := ⟨rfl, rfl, rfl, by decide +kernel, rfl, by decide +kernel, by decide +kernel⟩
abbrev s_dot : Stmt := topS 20
abbrev N_dot : List Str := ["numbers", "others", "number", "other"]
theorem sc_dot : FnScope ["numbers", "others", "number", "other"] ["numbers", "others"] (defScope s_dot) := ⟨rfl, rfl, rfl, by decide +kernel, rfl, by decide +kernel, by decide +kernel⟩
abbrev s_is_fit : Stmt := topS 22
abbrev N_is_fit : List Str := ["relation", "multiplier"]
theorem sc_is_fit : FnScope ["relation", "multiplier"] ["relation", "multiplier"] (defScope s_is_fit) := ⟨rfl, rfl, rfl, by decide +kernel, rfl, by decide +kernel, by decide +kernel⟩
abbrev s_are_fit : Stmt := topS 23
abbrev N_are_fit : List Str := ["program", "multipliers", "rows", "row", "multiplier"]
theorem sc_are_fit : FnScope ["program", "multipliers", "rows", "row", "multiplier"] ["program", "multipliers"] (defScope s_are_fit) := ⟨rfl, rfl, rfl, by decide +kernel, rfl, by decide +kernel, by decide +kernel⟩
abbrev s_scaled_for : Stmt := topS 24
abbrev N_scaled_for : List Str := ["rows", "multipliers"]
theorem sc_scaled_for : FnScope ["rows", "multipliers"] ["rows", "multipliers"] (defScope s_scaled_for) := ⟨rfl, rfl, rfl, by decide +kernel, rfl, by decide +kernel, by decide +kernel⟩
abbrev s_loads : Stmt := topS 25
abbrev N_loads : List Str := ["program", "multipliers", "rows", "numerators", "scale", "variable", "row"]
theorem sc_loads : FnScope ["program", "multipliers", "rows", "numerators", "scale", "variable", "row"] ["program", "multipliers"] (defScope s_loads) := ⟨rfl, rfl, rfl, by decide +kernel, rfl, by decide +kernel, by decide +kernel⟩
abbrev s_gain : Stmt := topS 26
abbrev N_gain : List Str := ["program", "multipliers", "rows", "numerators", "scale", "row"]
theorem sc_gain : FnScope ["program", "multipliers", "rows", "numerators", "scale", "row"] ["program", "multipliers"] (defScope s_gain) := ⟨rfl, rfl, rfl, by decide +kernel, rfl, by decide +kernel, by decide +kernel⟩
abbrev s_need_few : Stmt := topS 29
abbrev N_need_few : List Str := ["program"]
theorem sc_need_few : FnScope ["program"] ["program"] (defScope s_need_few) := ⟨rfl, rfl, rfl, by decide +kernel, rfl, by decide +kernel, by decide +kernel⟩
abbrev s_need_fixing : Stmt := topS 30
abbrev N_need_fixing : List Str := ["program", "fixing", "variable", "fixed"]
theorem sc_need_fixing : FnScope ["program", "fixing", "variable", "fixed"] ["program", "fixing"] (defScope s_need_fixing) := ⟨rfl, rfl, rfl, by decide +kernel, rfl, by decide +kernel, by decide +kernel⟩
abbrev s_bound_with : Stmt := topS 31
abbrev N_bound_with : List Str := ["program", "prices", "fixing", "multipliers", "parts", "price", "load", "fixed", "rest"]
theorem sc_bound_with : FnScope ["program", "prices", "fixing", "multipliers", "parts", "price", "load", "fixed", "rest"] ["program", "prices", "fixing", "multipliers"] (defScope s_bound_with) := ⟨rfl, rfl, rfl, by decide +kernel, rfl, by decide +kernel, by decide +kernel⟩
abbrev s_case_bound : Stmt := topS 32
abbrev N_case_bound : List Str := ["program", "fixing", "multipliers"]
theorem sc_case_bound : FnScope ["program", "fixing", "multipliers"] ["program", "fixing", "multipliers"] (defScope s_case_bound) := ⟨rfl, rfl, rfl, by decide +kernel, rfl, by decide +kernel, by decide +kernel⟩
abbrev s_shows_none : Stmt := topS 33
abbrev N_shows_none : List Str := ["program", "fixing", "multipliers"]
theorem sc_shows_none : FnScope ["program", "fixing", "multipliers"] ["program", "fixing", "multipliers"] (defScope s_shows_none) := ⟨rfl, rfl, rfl, by decide +kernel, rfl, by decide +kernel, by decide +kernel⟩
abbrev s_first_under : Stmt := topS 34
abbrev N_first_under : List Str := ["fixing", "fixed"]
theorem sc_first_under : FnScope ["fixing", "fixed"] ["fixing"] (defScope s_first_under) := ⟨rfl, rfl, rfl, by decide +kernel, rfl, by decide +kernel, by decide +kernel⟩
abbrev s_closes : Stmt := topS 35
abbrev N_closes : List Str := ["program", "fixing", "multipliers", "value", "told", "least"]
theorem sc_closes : FnScope ["program", "fixing", "multipliers", "value", "told", "least"] ["program", "fixing", "multipliers", "value", "told"] (defScope s_closes) := ⟨rfl, rfl, rfl, by decide +kernel, rfl, by decide +kernel, by decide +kernel⟩
abbrev s_law_numbers : Stmt := topS 37
abbrev N_law_numbers : List Str := ["script", "many", "rest", "mixed", "numbers", "k", "at", "cell"]
theorem sc_law_numbers : FnScope ["script", "many", "rest", "mixed", "numbers", "k", "at", "cell"] ["script", "many"] (defScope s_law_numbers) := ⟨rfl, rfl, rfl, by decide +kernel, rfl, by decide +kernel, by decide +kernel⟩
abbrev s_law_lowest : Stmt := topS 38
abbrev N_law_lowest : List Str := ["p", "q", "one", "two", "turn"]
theorem sc_law_lowest : FnScope ["p", "q", "one", "two", "turn"] ["p", "q"] (defScope s_law_lowest) := ⟨rfl, rfl, rfl, by decide +kernel, rfl, by decide +kernel, by decide +kernel⟩
abbrev s_law_plus : Stmt := topS 39
abbrev N_law_plus : List Str := ["first", "second"]
theorem sc_law_plus : FnScope ["first", "second"] ["first", "second"] (defScope s_law_plus) := ⟨rfl, rfl, rfl, by decide +kernel, rfl, by decide +kernel, by decide +kernel⟩
abbrev s_law_added : Stmt := topS 42
abbrev N_law_added : List Str := ["rows", "total", "one"]
theorem sc_law_added : FnScope ["rows", "total", "one"] ["rows"] (defScope s_law_added) := ⟨rfl, rfl, rfl, by decide +kernel, rfl, by decide +kernel, by decide +kernel⟩
abbrev s_law_weighted : Stmt := topS 43
abbrev N_law_weighted : List Str := ["numbers", "values", "k"]
theorem sc_law_weighted : FnScope ["numbers", "values", "k"] ["numbers", "values"] (defScope s_law_weighted) := ⟨rfl, rfl, rfl, by decide +kernel, rfl, by decide +kernel, by decide +kernel⟩
abbrev s_law_program : Stmt := topS 44
abbrev N_law_program : List Str := ["numbers", "at", "most", "count", "many", "wide", "prices", "rows", "k", "drawn", "line", "relation", "total", "j"]
theorem sc_law_program : FnScope ["numbers", "at", "most", "count", "many", "wide", "prices", "rows", "k", "drawn", "line", "relation", "total", "j"] ["numbers", "at", "most", "count"] (defScope s_law_program) := ⟨rfl, rfl, rfl, by decide +kernel, rfl, by decide +kernel, by decide +kernel⟩
abbrev s_law_good : Stmt := topS 45
abbrev N_law_good : List Str := ["rows", "told", "line", "relation", "bound", "total", "j"]
theorem sc_law_good : FnScope ["rows", "told", "line", "relation", "bound", "total", "j"] ["rows", "told"] (defScope s_law_good) := ⟨rfl, rfl, rfl, by decide +kernel, rfl, by decide +kernel, by decide +kernel⟩
abbrev s_law_lists : Stmt := topS 46
abbrev N_law_lists : List Str := ["many", "number", "j"]
theorem sc_law_lists : FnScope ["many", "number", "j"] ["many"] (defScope s_law_lists) := ⟨rfl, rfl, rfl, by decide +kernel, rfl, by decide +kernel, by decide +kernel⟩
abbrev s_law_worth : Stmt := topS 47
abbrev N_law_worth : List Str := ["prices", "told", "j"]
theorem sc_law_worth : FnScope ["prices", "told", "j"] ["prices", "told"] (defScope s_law_worth) := ⟨rfl, rfl, rfl, by decide +kernel, rfl, by decide +kernel, by decide +kernel⟩
abbrev s_law_fit : Stmt := topS 48
abbrev N_law_fit : List Str := ["rows", "weights", "k"]
theorem sc_law_fit : FnScope ["rows", "weights", "k"] ["rows", "weights"] (defScope s_law_fit) := ⟨rfl, rfl, rfl, by decide +kernel, rfl, by decide +kernel, by decide +kernel⟩
abbrev s_law_bound : Stmt := topS 49
abbrev N_law_bound : List Str := ["prices", "rows", "fixing", "weights", "total", "j", "load", "rest", "row"]
theorem sc_law_bound : FnScope ["prices", "rows", "fixing", "weights", "total", "j", "load", "rest", "row"] ["prices", "rows", "fixing", "weights"] (defScope s_law_bound) := ⟨rfl, rfl, rfl, by decide +kernel, rfl, by decide +kernel, by decide +kernel⟩
abbrev s_law_shows_none : Stmt := topS 50
abbrev N_law_shows_none : List Str := ["prices", "rows", "fixing", "weights"]
theorem sc_law_shows_none : FnScope ["prices", "rows", "fixing", "weights"] ["prices", "rows", "fixing", "weights"] (defScope s_law_shows_none) := ⟨rfl, rfl, rfl, by decide +kernel, rfl, by decide +kernel, by decide +kernel⟩
abbrev s_law_closes : Stmt := topS 51
abbrev N_law_closes : List Str := ["prices", "rows", "fixing", "weights", "value", "told", "bound", "least", "first", "bit"]
theorem sc_law_closes : FnScope ["prices", "rows", "fixing", "weights", "value", "told", "bound", "least", "first", "bit"] ["prices", "rows", "fixing", "weights", "value", "told"] (defScope s_law_closes) := ⟨rfl, rfl, rfl, by decide +kernel, rfl, by decide +kernel, by decide +kernel⟩
abbrev s_law_some : Stmt := topS 52
abbrev N_law_some : List Str := ["numbers", "at", "k"]
theorem sc_law_some : FnScope ["numbers", "at", "k"] ["numbers", "at", "k"] (defScope s_law_some) := ⟨rfl, rfl, rfl, by decide +kernel, rfl, by decide +kernel, by decide +kernel⟩
abbrev s_law_refused : Stmt := topS 53
abbrev N_law_refused : List Str := ["way", "program", "fixing", "weights", "error"]
theorem sc_law_refused : FnScope ["way", "program", "fixing", "weights", "error"] ["way", "program", "fixing", "weights"] (defScope s_law_refused) := ⟨rfl, rfl, rfl, by decide +kernel, rfl, by decide +kernel, by decide +kernel⟩
abbrev s_law_refusals : Stmt := topS 54
abbrev N_law_refusals : List Str := ["numbers", "program", "fixing", "weights", "wide", "at", "bad", "way"]
theorem sc_law_refusals : FnScope ["numbers", "program", "fixing", "weights", "wide", "at", "bad", "way"] ["numbers", "program", "fixing", "weights"] (defScope s_law_refusals) := ⟨rfl, rfl, rfl, by decide +kernel, rfl, by decide +kernel, by decide +kernel⟩
abbrev s_law_true : Stmt := topS 55
abbrev N_law_true : List Str := ["rows", "prices", "fixing", "weights", "value", "told", "under", "one", "bound", "worth", "j"]
theorem sc_law_true : FnScope ["rows", "prices", "fixing", "weights", "value", "told", "under", "one", "bound", "worth", "j"] ["rows", "prices", "fixing", "weights", "value", "told"] (defScope s_law_true) := ⟨rfl, rfl, rfl, by decide +kernel, rfl, by decide +kernel, by decide +kernel⟩
abbrev s_law : Stmt := topS 56
abbrev N_law : List Str := ["script", "numbers", "many", "prices", "rows", "program", "turn", "at", "fixing", "k", "weights", "sign", "told", "value", "kept", "long", "j"]
theorem sc_law : FnScope ["script", "numbers", "many", "prices", "rows", "program", "turn", "at", "fixing", "k", "weights", "sign", "told", "value", "kept", "long", "j"] ["script"] (defScope s_law) := ⟨rfl, rfl, rfl, by decide +kernel, rfl, by decide +kernel, by decide +kernel⟩
/-- what the top says -/
structure Tx (K : PySem.W.Frag) (mg : Str → Option Value) where
  f_WebError___init__ : Addr
  fd_WebError___init__ : FuncData
  F_WebError___init__ : Fun K "__init__" "WebError.__init__" s_WebError___init__ f_WebError___init__ fd_WebError___init__
  b_WebError___init__ : Binds K fd_WebError___init__ ["self", "at"] []
  f_fraction : Addr
  fd_fraction : FuncData
  F_fraction : Fun K "fraction" "fraction" s_fraction f_fraction fd_fraction
  b_fraction : Binds K fd_fraction ["numerator", "denominator"] []
  g_fraction : mg "fraction" = some (.ref f_fraction)
  f_minus : Addr
  fd_minus : FuncData
  F_minus : Fun K "minus" "minus" s_minus f_minus fd_minus
  b_minus : Binds K fd_minus ["first", "second"] []
  g_minus : mg "minus" = some (.ref f_minus)
  f_ceiling : Addr
  fd_ceiling : FuncData
  F_ceiling : Fun K "ceiling" "ceiling" s_ceiling f_ceiling fd_ceiling
  b_ceiling : Binds K fd_ceiling ["pair"] []
  g_ceiling : mg "ceiling" = some (.ref f_ceiling)
  f_scaled : Addr
  fd_scaled : FuncData
  F_scaled : Fun K "scaled" "scaled" s_scaled f_scaled fd_scaled
  b_scaled : Binds K fd_scaled ["fractions"] []
  g_scaled : mg "scaled" = some (.ref f_scaled)
  f_added : Addr
  fd_added : FuncData
  F_added : Fun K "added" "added" s_added f_added fd_added
  b_added : Binds K fd_added ["fractions"] []
  g_added : mg "added" = some (.ref f_added)
  f_Program___init__ : Addr
  fd_Program___init__ : FuncData
  F_Program___init__ : Fun K "__init__" "Program.__init__" s_Program___init__ f_Program___init__ fd_Program___init__
  b_Program___init__ : Binds K fd_Program___init__ ["self", "prices", "rows"] []
  f_Program_count : Addr
  fd_Program_count : FuncData
  F_Program_count : Fun K "count" "Program.count" s_Program_count f_Program_count fd_Program_count
  b_Program_count : Binds K fd_Program_count ["self"] []
  f_Program_prices : Addr
  fd_Program_prices : FuncData
  F_Program_prices : Fun K "prices" "Program.prices" s_Program_prices f_Program_prices fd_Program_prices
  b_Program_prices : Binds K fd_Program_prices ["self"] []
  f_Program_rows : Addr
  fd_Program_rows : FuncData
  F_Program_rows : Fun K "rows" "Program.rows" s_Program_rows f_Program_rows fd_Program_rows
  b_Program_rows : Binds K fd_Program_rows ["self"] []
  f_dot : Addr
  fd_dot : FuncData
  F_dot : Fun K "dot" "dot" s_dot f_dot fd_dot
  b_dot : Binds K fd_dot ["numbers", "others"] []
  g_dot : mg "dot" = some (.ref f_dot)
  f_is_fit : Addr
  fd_is_fit : FuncData
  F_is_fit : Fun K "is_fit" "is_fit" s_is_fit f_is_fit fd_is_fit
  b_is_fit : Binds K fd_is_fit ["relation", "multiplier"] []
  g_is_fit : mg "is_fit" = some (.ref f_is_fit)
  f_are_fit : Addr
  fd_are_fit : FuncData
  F_are_fit : Fun K "are_fit" "are_fit" s_are_fit f_are_fit fd_are_fit
  b_are_fit : Binds K fd_are_fit ["program", "multipliers"] []
  g_are_fit : mg "are_fit" = some (.ref f_are_fit)
  f_scaled_for : Addr
  fd_scaled_for : FuncData
  F_scaled_for : Fun K "scaled_for" "scaled_for" s_scaled_for f_scaled_for fd_scaled_for
  b_scaled_for : Binds K fd_scaled_for ["rows", "multipliers"] []
  g_scaled_for : mg "scaled_for" = some (.ref f_scaled_for)
  f_loads : Addr
  fd_loads : FuncData
  F_loads : Fun K "loads" "loads" s_loads f_loads fd_loads
  b_loads : Binds K fd_loads ["program", "multipliers"] []
  g_loads : mg "loads" = some (.ref f_loads)
  f_gain : Addr
  fd_gain : FuncData
  F_gain : Fun K "gain" "gain" s_gain f_gain fd_gain
  b_gain : Binds K fd_gain ["program", "multipliers"] []
  g_gain : mg "gain" = some (.ref f_gain)
  f_need_few : Addr
  fd_need_few : FuncData
  F_need_few : Fun K "need_few" "need_few" s_need_few f_need_few fd_need_few
  b_need_few : Binds K fd_need_few ["program"] []
  g_need_few : mg "need_few" = some (.ref f_need_few)
  f_need_fixing : Addr
  fd_need_fixing : FuncData
  F_need_fixing : Fun K "need_fixing" "need_fixing" s_need_fixing f_need_fixing fd_need_fixing
  b_need_fixing : Binds K fd_need_fixing ["program", "fixing"] []
  g_need_fixing : mg "need_fixing" = some (.ref f_need_fixing)
  f_bound_with : Addr
  fd_bound_with : FuncData
  F_bound_with : Fun K "bound_with" "bound_with" s_bound_with f_bound_with fd_bound_with
  b_bound_with : Binds K fd_bound_with ["program", "prices", "fixing", "multipliers"] []
  g_bound_with : mg "bound_with" = some (.ref f_bound_with)
  f_case_bound : Addr
  fd_case_bound : FuncData
  F_case_bound : Fun K "case_bound" "case_bound" s_case_bound f_case_bound fd_case_bound
  b_case_bound : Binds K fd_case_bound ["program", "fixing", "multipliers"] []
  g_case_bound : mg "case_bound" = some (.ref f_case_bound)
  f_shows_none : Addr
  fd_shows_none : FuncData
  F_shows_none : Fun K "shows_none" "shows_none" s_shows_none f_shows_none fd_shows_none
  b_shows_none : Binds K fd_shows_none ["program", "fixing", "multipliers"] []
  g_shows_none : mg "shows_none" = some (.ref f_shows_none)
  f_first_under : Addr
  fd_first_under : FuncData
  F_first_under : Fun K "first_under" "first_under" s_first_under f_first_under fd_first_under
  b_first_under : Binds K fd_first_under ["fixing"] []
  g_first_under : mg "first_under" = some (.ref f_first_under)
  f_closes : Addr
  fd_closes : FuncData
  F_closes : Fun K "closes" "closes" s_closes f_closes fd_closes
  b_closes : Binds K fd_closes ["program", "fixing", "multipliers", "value", "told"] []
  g_closes : mg "closes" = some (.ref f_closes)
  f_law_numbers : Addr
  fd_law_numbers : FuncData
  F_law_numbers : Fun K "_law_numbers" "_law_numbers" s_law_numbers f_law_numbers fd_law_numbers
  b_law_numbers : Binds K fd_law_numbers ["script", "many"] []
  g_law_numbers : mg "_law_numbers" = some (.ref f_law_numbers)
  f_law_lowest : Addr
  fd_law_lowest : FuncData
  F_law_lowest : Fun K "_law_lowest" "_law_lowest" s_law_lowest f_law_lowest fd_law_lowest
  b_law_lowest : Binds K fd_law_lowest ["p", "q"] []
  g_law_lowest : mg "_law_lowest" = some (.ref f_law_lowest)
  f_law_plus : Addr
  fd_law_plus : FuncData
  F_law_plus : Fun K "_law_plus" "_law_plus" s_law_plus f_law_plus fd_law_plus
  b_law_plus : Binds K fd_law_plus ["first", "second"] []
  g_law_plus : mg "_law_plus" = some (.ref f_law_plus)
  f_law_added : Addr
  fd_law_added : FuncData
  F_law_added : Fun K "_law_added" "_law_added" s_law_added f_law_added fd_law_added
  b_law_added : Binds K fd_law_added ["rows"] []
  g_law_added : mg "_law_added" = some (.ref f_law_added)
  f_law_weighted : Addr
  fd_law_weighted : FuncData
  F_law_weighted : Fun K "_law_weighted" "_law_weighted" s_law_weighted f_law_weighted fd_law_weighted
  b_law_weighted : Binds K fd_law_weighted ["numbers", "values"] []
  g_law_weighted : mg "_law_weighted" = some (.ref f_law_weighted)
  f_law_program : Addr
  fd_law_program : FuncData
  F_law_program : Fun K "_law_program" "_law_program" s_law_program f_law_program fd_law_program
  b_law_program : Binds K fd_law_program ["numbers", "at", "most", "count"] []
  g_law_program : mg "_law_program" = some (.ref f_law_program)
  f_law_good : Addr
  fd_law_good : FuncData
  F_law_good : Fun K "_law_good" "_law_good" s_law_good f_law_good fd_law_good
  b_law_good : Binds K fd_law_good ["rows", "told"] []
  g_law_good : mg "_law_good" = some (.ref f_law_good)
  f_law_lists : Addr
  fd_law_lists : FuncData
  F_law_lists : Fun K "_law_lists" "_law_lists" s_law_lists f_law_lists fd_law_lists
  b_law_lists : Binds K fd_law_lists ["many"] []
  g_law_lists : mg "_law_lists" = some (.ref f_law_lists)
  f_law_worth : Addr
  fd_law_worth : FuncData
  F_law_worth : Fun K "_law_worth" "_law_worth" s_law_worth f_law_worth fd_law_worth
  b_law_worth : Binds K fd_law_worth ["prices", "told"] []
  g_law_worth : mg "_law_worth" = some (.ref f_law_worth)
  f_law_fit : Addr
  fd_law_fit : FuncData
  F_law_fit : Fun K "_law_fit" "_law_fit" s_law_fit f_law_fit fd_law_fit
  b_law_fit : Binds K fd_law_fit ["rows", "weights"] []
  g_law_fit : mg "_law_fit" = some (.ref f_law_fit)
  f_law_bound : Addr
  fd_law_bound : FuncData
  F_law_bound : Fun K "_law_bound" "_law_bound" s_law_bound f_law_bound fd_law_bound
  b_law_bound : Binds K fd_law_bound ["prices", "rows", "fixing", "weights"] []
  g_law_bound : mg "_law_bound" = some (.ref f_law_bound)
  f_law_shows_none : Addr
  fd_law_shows_none : FuncData
  F_law_shows_none : Fun K "_law_shows_none" "_law_shows_none" s_law_shows_none f_law_shows_none fd_law_shows_none
  b_law_shows_none : Binds K fd_law_shows_none ["prices", "rows", "fixing", "weights"] []
  g_law_shows_none : mg "_law_shows_none" = some (.ref f_law_shows_none)
  f_law_closes : Addr
  fd_law_closes : FuncData
  F_law_closes : Fun K "_law_closes" "_law_closes" s_law_closes f_law_closes fd_law_closes
  b_law_closes : Binds K fd_law_closes ["prices", "rows", "fixing", "weights", "value", "told"] []
  g_law_closes : mg "_law_closes" = some (.ref f_law_closes)
  f_law_some : Addr
  fd_law_some : FuncData
  F_law_some : Fun K "_law_some" "_law_some" s_law_some f_law_some fd_law_some
  b_law_some : Binds K fd_law_some ["numbers", "at", "k"] []
  g_law_some : mg "_law_some" = some (.ref f_law_some)
  f_law_refused : Addr
  fd_law_refused : FuncData
  F_law_refused : Fun K "_law_refused" "_law_refused" s_law_refused f_law_refused fd_law_refused
  b_law_refused : Binds K fd_law_refused ["way", "program", "fixing", "weights"] []
  g_law_refused : mg "_law_refused" = some (.ref f_law_refused)
  f_law_refusals : Addr
  fd_law_refusals : FuncData
  F_law_refusals : Fun K "_law_refusals" "_law_refusals" s_law_refusals f_law_refusals fd_law_refusals
  b_law_refusals : Binds K fd_law_refusals ["numbers", "program", "fixing", "weights"] []
  g_law_refusals : mg "_law_refusals" = some (.ref f_law_refusals)
  f_law_true : Addr
  fd_law_true : FuncData
  F_law_true : Fun K "_law_true" "_law_true" s_law_true f_law_true fd_law_true
  b_law_true : Binds K fd_law_true ["rows", "prices", "fixing", "weights", "value", "told"] []
  g_law_true : mg "_law_true" = some (.ref f_law_true)
  f_law : Addr
  fd_law : FuncData
  F_law : Fun K "law" "law" s_law f_law fd_law
  b_law : Binds K fd_law ["script"] []
  g_law : mg "law" = some (.ref f_law)
  c_Program : Addr
  g_Program : mg "Program" = some (.ref c_Program)
  cl_Program : Cls K c_Program
  mk_Program : Mk K c_Program f_Program___init__
  m_Program_count : Meth K c_Program "count" f_Program_count
  m_Program_prices : Meth K c_Program "prices" f_Program_prices
  m_Program_rows : Meth K c_Program "rows" f_Program_rows
  na_Program__prices : NoAttr K c_Program "_prices"
  na_Program__rows : NoAttr K c_Program "_rows"
  c_WebError : Addr
  x_WebError : OexC K c_WebError ∧ PySem.W.findIn K (.ref c_WebError) "at" = some none ∧ PySem.W.findIn K (.ref c_WebError) "__init__" = some (some (.ref f_WebError___init__)) ∧ PySem.W.typeIn K (.ref f_WebError___init__) = some (.type "function") ∧ mg "WebError" = some (.ref c_WebError)
  e_WebError : ExcC K c_WebError
  ef_WebError : XfC K c_WebError
  c_OutOfRange : Addr
  x_OutOfRange : OexC K c_OutOfRange ∧ PySem.W.findIn K (.ref c_OutOfRange) "at" = some none ∧ PySem.W.findIn K (.ref c_OutOfRange) "__init__" = some (some (.ref f_WebError___init__)) ∧ PySem.W.typeIn K (.ref f_WebError___init__) = some (.type "function") ∧ mg "OutOfRange" = some (.ref c_OutOfRange)
  e_OutOfRange : ExcC K c_OutOfRange
  ef_OutOfRange : XfC K c_OutOfRange
  c_TooMany : Addr
  x_TooMany : OexC K c_TooMany ∧ PySem.W.findIn K (.ref c_TooMany) "at" = some none ∧ PySem.W.findIn K (.ref c_TooMany) "__init__" = some (some (.ref f_WebError___init__)) ∧ PySem.W.typeIn K (.ref f_WebError___init__) = some (.type "function") ∧ mg "TooMany" = some (.ref c_TooMany)
  e_TooMany : ExcC K c_TooMany
  ef_TooMany : XfC K c_TooMany
  c_ZeroDivisor : Addr
  x_ZeroDivisor : OexC K c_ZeroDivisor ∧ PySem.W.findIn K (.ref c_ZeroDivisor) "at" = some none ∧ PySem.W.findIn K (.ref c_ZeroDivisor) "__init__" = some (some (.ref f_WebError___init__)) ∧ PySem.W.typeIn K (.ref f_WebError___init__) = some (.type "function") ∧ mg "ZeroDivisor" = some (.ref c_ZeroDivisor)
  e_ZeroDivisor : ExcC K c_ZeroDivisor
  ef_ZeroDivisor : XfC K c_ZeroDivisor
  c_BadRelation : Addr
  x_BadRelation : OexC K c_BadRelation ∧ PySem.W.findIn K (.ref c_BadRelation) "at" = some none ∧ PySem.W.findIn K (.ref c_BadRelation) "__init__" = some (some (.ref f_WebError___init__)) ∧ PySem.W.typeIn K (.ref f_WebError___init__) = some (.type "function") ∧ mg "BadRelation" = some (.ref c_BadRelation)
  e_BadRelation : ExcC K c_BadRelation
  ef_BadRelation : XfC K c_BadRelation
  c_WrongSize : Addr
  x_WrongSize : OexC K c_WrongSize ∧ PySem.W.findIn K (.ref c_WrongSize) "at" = some none ∧ PySem.W.findIn K (.ref c_WrongSize) "__init__" = some (some (.ref f_WebError___init__)) ∧ PySem.W.typeIn K (.ref f_WebError___init__) = some (.type "function") ∧ mg "WrongSize" = some (.ref c_WrongSize)
  e_WrongSize : ExcC K c_WrongSize
  ef_WrongSize : XfC K c_WrongSize
  c_BadFixing : Addr
  x_BadFixing : OexC K c_BadFixing ∧ PySem.W.findIn K (.ref c_BadFixing) "at" = some none ∧ PySem.W.findIn K (.ref c_BadFixing) "__init__" = some (some (.ref f_WebError___init__)) ∧ PySem.W.typeIn K (.ref f_WebError___init__) = some (.type "function") ∧ mg "BadFixing" = some (.ref c_BadFixing)
  e_BadFixing : ExcC K c_BadFixing
  ef_BadFixing : XfC K c_BadFixing
  em_OutOfRange : PySem.W.exmOne K (.ref c_OutOfRange) (.ref c_WebError) = some true
  is_OutOfRange_OutOfRange : PySem.W.kitOne K (.ref c_OutOfRange) (.ref c_OutOfRange) = some true
  is_OutOfRange_TooMany : PySem.W.kitOne K (.ref c_OutOfRange) (.ref c_TooMany) = some false
  is_OutOfRange_ZeroDivisor : PySem.W.kitOne K (.ref c_OutOfRange) (.ref c_ZeroDivisor) = some false
  is_OutOfRange_BadRelation : PySem.W.kitOne K (.ref c_OutOfRange) (.ref c_BadRelation) = some false
  is_OutOfRange_WrongSize : PySem.W.kitOne K (.ref c_OutOfRange) (.ref c_WrongSize) = some false
  is_OutOfRange_BadFixing : PySem.W.kitOne K (.ref c_OutOfRange) (.ref c_BadFixing) = some false
  em_TooMany : PySem.W.exmOne K (.ref c_TooMany) (.ref c_WebError) = some true
  is_TooMany_OutOfRange : PySem.W.kitOne K (.ref c_TooMany) (.ref c_OutOfRange) = some false
  is_TooMany_TooMany : PySem.W.kitOne K (.ref c_TooMany) (.ref c_TooMany) = some true
  is_TooMany_ZeroDivisor : PySem.W.kitOne K (.ref c_TooMany) (.ref c_ZeroDivisor) = some false
  is_TooMany_BadRelation : PySem.W.kitOne K (.ref c_TooMany) (.ref c_BadRelation) = some false
  is_TooMany_WrongSize : PySem.W.kitOne K (.ref c_TooMany) (.ref c_WrongSize) = some false
  is_TooMany_BadFixing : PySem.W.kitOne K (.ref c_TooMany) (.ref c_BadFixing) = some false
  em_ZeroDivisor : PySem.W.exmOne K (.ref c_ZeroDivisor) (.ref c_WebError) = some true
  is_ZeroDivisor_OutOfRange : PySem.W.kitOne K (.ref c_ZeroDivisor) (.ref c_OutOfRange) = some false
  is_ZeroDivisor_TooMany : PySem.W.kitOne K (.ref c_ZeroDivisor) (.ref c_TooMany) = some false
  is_ZeroDivisor_ZeroDivisor : PySem.W.kitOne K (.ref c_ZeroDivisor) (.ref c_ZeroDivisor) = some true
  is_ZeroDivisor_BadRelation : PySem.W.kitOne K (.ref c_ZeroDivisor) (.ref c_BadRelation) = some false
  is_ZeroDivisor_WrongSize : PySem.W.kitOne K (.ref c_ZeroDivisor) (.ref c_WrongSize) = some false
  is_ZeroDivisor_BadFixing : PySem.W.kitOne K (.ref c_ZeroDivisor) (.ref c_BadFixing) = some false
  em_BadRelation : PySem.W.exmOne K (.ref c_BadRelation) (.ref c_WebError) = some true
  is_BadRelation_OutOfRange : PySem.W.kitOne K (.ref c_BadRelation) (.ref c_OutOfRange) = some false
  is_BadRelation_TooMany : PySem.W.kitOne K (.ref c_BadRelation) (.ref c_TooMany) = some false
  is_BadRelation_ZeroDivisor : PySem.W.kitOne K (.ref c_BadRelation) (.ref c_ZeroDivisor) = some false
  is_BadRelation_BadRelation : PySem.W.kitOne K (.ref c_BadRelation) (.ref c_BadRelation) = some true
  is_BadRelation_WrongSize : PySem.W.kitOne K (.ref c_BadRelation) (.ref c_WrongSize) = some false
  is_BadRelation_BadFixing : PySem.W.kitOne K (.ref c_BadRelation) (.ref c_BadFixing) = some false
  em_WrongSize : PySem.W.exmOne K (.ref c_WrongSize) (.ref c_WebError) = some true
  is_WrongSize_OutOfRange : PySem.W.kitOne K (.ref c_WrongSize) (.ref c_OutOfRange) = some false
  is_WrongSize_TooMany : PySem.W.kitOne K (.ref c_WrongSize) (.ref c_TooMany) = some false
  is_WrongSize_ZeroDivisor : PySem.W.kitOne K (.ref c_WrongSize) (.ref c_ZeroDivisor) = some false
  is_WrongSize_BadRelation : PySem.W.kitOne K (.ref c_WrongSize) (.ref c_BadRelation) = some false
  is_WrongSize_WrongSize : PySem.W.kitOne K (.ref c_WrongSize) (.ref c_WrongSize) = some true
  is_WrongSize_BadFixing : PySem.W.kitOne K (.ref c_WrongSize) (.ref c_BadFixing) = some false
  em_BadFixing : PySem.W.exmOne K (.ref c_BadFixing) (.ref c_WebError) = some true
  is_BadFixing_OutOfRange : PySem.W.kitOne K (.ref c_BadFixing) (.ref c_OutOfRange) = some false
  is_BadFixing_TooMany : PySem.W.kitOne K (.ref c_BadFixing) (.ref c_TooMany) = some false
  is_BadFixing_ZeroDivisor : PySem.W.kitOne K (.ref c_BadFixing) (.ref c_ZeroDivisor) = some false
  is_BadFixing_BadRelation : PySem.W.kitOne K (.ref c_BadFixing) (.ref c_BadRelation) = some false
  is_BadFixing_WrongSize : PySem.W.kitOne K (.ref c_BadFixing) (.ref c_WrongSize) = some false
  is_BadFixing_BadFixing : PySem.W.kitOne K (.ref c_BadFixing) (.ref c_BadFixing) = some true
  z_abs : mg "abs" = none
  z_all : mg "all" = none
  z_enumerate : mg "enumerate" = none
  z_int : mg "int" = none
  z_isinstance : mg "isinstance" = none
  z_len : mg "len" = none
  z_list : mg "list" = none
  z_range : mg "range" = none
  z_repr : mg "repr" = none
  z_sum : mg "sum" = none
  z_zip : mg "zip" = none
  z_gcd : mg "gcd" = some (.builtin "math.gcd")
  z_lcm : mg "lcm" = some (.builtin "math.lcm")
  t_MOST_VARIABLES_program : Tok
  k_MOST_VARIABLES_program : mg "MOST_VARIABLES_program" = some (.int 40 t_MOST_VARIABLES_program)
  t_MOST_ROWS : Tok
  k_MOST_ROWS : mg "MOST_ROWS" = some (.int 80 t_MOST_ROWS)
  t_MOST_VARIABLES_bounds : Tok
  k_MOST_VARIABLES_bounds : mg "MOST_VARIABLES_bounds" = some (.int 16 t_MOST_VARIABLES_bounds)
  c_RELATIONS : Addr
  k_RELATIONS : mg "RELATIONS" = some (.ref c_RELATIONS)
  q_RELATIONS : ∀ H : Hp, SqT K H c_RELATIONS ([PySem.Str.ofString "least", PySem.Str.ofString "most", PySem.Str.ofString "equal"].map V.str)
def Tx.kn {K : PySem.W.Frag} {mg : Str → Option Value} (T : Tx K mg) : List Addr := [T.c_WebError, T.c_OutOfRange, T.c_TooMany, T.c_ZeroDivisor, T.c_BadRelation, T.c_WrongSize, T.c_BadFixing]
theorem Tx.kn_at {K : PySem.W.Frag} {mg : Str → Option Value} (T : Tx K mg) : ∀ C ∈ T.kn, XfC K C ∧ PySem.W.findIn K (.ref C) "at" = some none := fun C h => by
  unfold Tx.kn at h
  simp only [List.mem_cons, List.not_mem_nil, or_false] at h
  rcases h with rfl | rfl | rfl | rfl | rfl | rfl | rfl
  · exact ⟨T.ef_WebError, T.x_WebError.2.1⟩
  · exact ⟨T.ef_OutOfRange, T.x_OutOfRange.2.1⟩
  · exact ⟨T.ef_TooMany, T.x_TooMany.2.1⟩
  · exact ⟨T.ef_ZeroDivisor, T.x_ZeroDivisor.2.1⟩
  · exact ⟨T.ef_BadRelation, T.x_BadRelation.2.1⟩
  · exact ⟨T.ef_WrongSize, T.x_WrongSize.2.1⟩
  · exact ⟨T.ef_BadFixing, T.x_BadFixing.2.1⟩
theorem Tx.kn_is {K : PySem.W.Frag} {mg : Str → Option Value} (T : Tx K mg) : ∀ C ∈ T.kn, ExcC K C := fun C h => by
  unfold Tx.kn at h
  simp only [List.mem_cons, List.not_mem_nil, or_false] at h
  rcases h with rfl | rfl | rfl | rfl | rfl | rfl | rfl
  · exact T.e_WebError
  · exact T.e_OutOfRange
  · exact T.e_TooMany
  · exact T.e_ZeroDivisor
  · exact T.e_BadRelation
  · exact T.e_WrongSize
  · exact T.e_BadFixing
section
variable {K : PySem.W.Frag} {mg : Str → Option Value}
abbrev Ob_Program : Type := (List Int) × (List ((List Int) × Str × Int))
def fo_Program (o : Ob_Program) : List (Str × PyData) := [("_prices", (eL eI).e o.1), ("_rows", (eL (eT3 (eL eI) eS eI)).e o.2)]
def vo_Program (T : Tx K mg) (o : Ob_Program) : Vl := .i T.c_Program (fo_Program o)
noncomputable def xs_fraction (T : Tx K mg) : XS K := (.seq (.ite (.test (.op O2.eq (.var 1) (.int 0)))
    (.raise T.c_ZeroDivisor T.x_ZeroDivisor.1 T.x_ZeroDivisor.2.1 (.cons false (.var 0) .nil))
    XS.nx)
    (.seq (.set 2 (.bi Bi.gcd (.cons false (.var 0) (.cons false (.var 1) .nil))))
    (.seq (.ite (.test (.op O2.lt (.var 1) (.int 0)))
    (.set 2 (.neg (.var 2)))
    XS.nx)
    (.ret (.tup (.cons false (.op O2.divU (.var 0) (.var 2)) (.cons false (.op O2.divU (.var 1) (.var 2)) .nil)))))))
@[irreducible] noncomputable def fn_fraction (T : Tx K mg) : Fn := ⟨2, false, fun as => runX (xs_fraction T) false 1 as⟩
theorem fnf_fraction (T : Tx K mg) (as : List Av) : (fn_fraction T).f as = runX (xs_fraction T) false 1 as := by unfold fn_fraction; rfl
theorem fnm_fraction (T : Tx K mg) : (fn_fraction T).m = 2 := by unfold fn_fraction; rfl
theorem fno_fraction (T : Tx K mg) : (fn_fraction T).own = false := by unfold fn_fraction; rfl
@[irreducible] noncomputable def m_fraction (T : Tx K mg) (numerator : Int) (denominator : Int) : Rs (Int × Int) :=
  (if (decide (denominator = 0)) = true then
  (Rs.ex T.c_ZeroDivisor numerator)
  else ((Rs.ok ((Int.gcd numerator denominator : Nat) : Int)).bind fun common =>
  (((if (decide (denominator < 0)) = true then
  ((Rs.ok (-common)).bind fun common1 =>
  (Rs.ok common1))
  else (Rs.ok common))).bind fun (common2 : Int) =>
  (((divUC numerator common2)).bind fun u => ((divUC denominator common2)).bind fun u1 => .ok (u, u1)))))
theorem r_fraction (T : Tx K mg) (numerator : Int) (denominator : Int) : Si ((fn_fraction T).f [.v (eI.v numerator), .v (eI.v denominator)]) (m_fraction T numerator denominator) (eT2 eI eI).v := by
  rw [fnf_fraction]
  exact si_runX (show SS (xs_fraction T) [.v (eI.v numerator), .v (eI.v denominator), .x] (m_fraction T numerator denominator) (PF false (eT2 eI eI).v) from by
    unfold xs_fraction m_fraction
    exact (ss_iteX (st_test (sv_op (sx_p (sv_var rfl) (sx_p sv_int so_eqI))))
  (ss_raise (sv_var rfl))
  (ss_nxS (ss_setI (st1 := fun common => [.v (eI.v numerator), .v (eI.v denominator), .v (eI.v common)]) (sv_bi (sc_p (sv_var rfl) (sc_p (sv_var rfl) (sc_nil so_gcd)))) (fun _ => rfl) fun common =>
  (ss_seq (es := fun (common2 : Int) => [.v (eI.v numerator), .v (eI.v denominator), .v (eI.v common2)]) (ss_ite (st_test (sv_op (sx_p (sv_var rfl) (sx_p sv_int so_lt))))
  (ss_last (ss_setI (st1 := fun common1 => [.v (eI.v numerator), .v (eI.v denominator), .v (eI.v common1)]) (sv_neg (sv_var rfl)) (fun _ => rfl) fun common1 =>
  (ss_nx rfl)))
  (ss_nx rfl)) (fun _ => rfl) fun common2 =>
  (ss_retM (sv_tup (sc_i (sv_op (sx_p (sv_var rfl) (sx_p (sv_var rfl) so_divU))) fun u => (sc_i (sv_op (sx_p (sv_var rfl) (sx_p (sv_var rfl) so_divU))) fun u1 => (sc_nil (si_tup (e := (eT2 eI eI).v) rfl rfl))))) fun _ => rfl))))))
noncomputable def xs_minus (T : Tx K mg) : XS K := (.ret (.call (fn_fraction T) (fno_fraction T) (.cons false (.op O2.sub (.op O2.mul (.op O2.ixT (.var 0) (.int 0)) (.op O2.ixT (.var 1) (.int 1))) (.op O2.mul (.op O2.ixT (.var 1) (.int 0)) (.op O2.ixT (.var 0) (.int 1)))) (.cons false (.op O2.mul (.op O2.ixT (.var 0) (.int 1)) (.op O2.ixT (.var 1) (.int 1))) .nil))))
@[irreducible] noncomputable def fn_minus (T : Tx K mg) : Fn := ⟨2, false, fun as => runX (xs_minus T) false 0 as⟩
theorem fnf_minus (T : Tx K mg) (as : List Av) : (fn_minus T).f as = runX (xs_minus T) false 0 as := by unfold fn_minus; rfl
theorem fnm_minus (T : Tx K mg) : (fn_minus T).m = 2 := by unfold fn_minus; rfl
theorem fno_minus (T : Tx K mg) : (fn_minus T).own = false := by unfold fn_minus; rfl
@[irreducible] noncomputable def m_minus (T : Tx K mg) (first : (Int × Int)) (second : (Int × Int)) : Rs (Int × Int) :=
  ((((mulC first.1 second.2)).bind fun u => ((mulC second.1 first.2)).bind fun u1 => Rs.ok (u - u1)).bind fun u2 => ((mulC first.2 second.2)).bind fun u3 => m_fraction T u2 u3)
theorem r_minus (T : Tx K mg) (first : (Int × Int)) (second : (Int × Int)) : Si ((fn_minus T).f [.v ((eT2 eI eI).v first), .v ((eT2 eI eI).v second)]) (m_minus T first second) (eT2 eI eI).v := by
  rw [fnf_minus]
  exact si_runX (show SS (xs_minus T) [.v ((eT2 eI eI).v first), .v ((eT2 eI eI).v second)] (m_minus T first second) (PF false (eT2 eI eI).v) from by
    unfold xs_minus m_minus
    exact (ss_retM (sv_call (sc_i (sv_op (sx_i (sv_op (sx_p (sv_op (sx_p (sv_var rfl) (sx_p sv_int (so_ixT (E := eI) rfl)))) (sx_p (sv_op (sx_p (sv_var rfl) (sx_p sv_int (so_ixT (E := eI) rfl)))) so_mul))) fun u => (sx_i (sv_op (sx_p (sv_op (sx_p (sv_var rfl) (sx_p sv_int (so_ixT (E := eI) rfl)))) (sx_p (sv_op (sx_p (sv_var rfl) (sx_p sv_int (so_ixT (E := eI) rfl)))) so_mul))) fun u1 => so_sub))) fun u2 => (sc_i (sv_op (sx_p (sv_op (sx_p (sv_var rfl) (sx_p sv_int (so_ixT (E := eI) rfl)))) (sx_p (sv_op (sx_p (sv_var rfl) (sx_p sv_int (so_ixT (E := eI) rfl)))) so_mul))) fun u3 => (sc_nil (si_fn (fnm_fraction T) (r_fraction T _ _)))))) fun _ => rfl))
noncomputable def xs_ceiling (T : Tx K mg) : XS K := (.ret (.neg (.op O2.div (.neg (.op O2.ixT (.var 0) (.int 0))) (.op O2.ixT (.var 0) (.int 1)))))
@[irreducible] noncomputable def fn_ceiling (T : Tx K mg) : Fn := ⟨1, false, fun as => runX (xs_ceiling T) false 0 as⟩
theorem fnf_ceiling (T : Tx K mg) (as : List Av) : (fn_ceiling T).f as = runX (xs_ceiling T) false 0 as := by unfold fn_ceiling; rfl
theorem fnm_ceiling (T : Tx K mg) : (fn_ceiling T).m = 1 := by unfold fn_ceiling; rfl
theorem fno_ceiling (T : Tx K mg) : (fn_ceiling T).own = false := by unfold fn_ceiling; rfl
@[irreducible] noncomputable def m_ceiling (pair : (Int × Int)) : Rs Int :=
  (((divC (-pair.1) pair.2)).bind fun u_ => Rs.ok (-u_))
theorem r_ceiling (T : Tx K mg) (pair : (Int × Int)) : Si ((fn_ceiling T).f [.v ((eT2 eI eI).v pair)]) (m_ceiling pair) eI.v := by
  rw [fnf_ceiling]
  exact si_runX (show SS (xs_ceiling T) [.v ((eT2 eI eI).v pair)] (m_ceiling pair) (PF false eI.v) from by
    unfold xs_ceiling m_ceiling
    exact (ss_retM (sv_negI (sv_op (sx_p (sv_neg (sv_op (sx_p (sv_var rfl) (sx_p sv_int (so_ixT (E := eI) rfl))))) (sx_p (sv_op (sx_p (sv_var rfl) (sx_p sv_int (so_ixT (E := eI) rfl)))) so_div)))) fun _ => rfl))
noncomputable def xs_scaled (T : Tx K mg) : XS K := (.seq (.set 1 (.int 1))
    (.seq (.for_ (.list (.var 0)) (.name 2) (.post [2] (.set 1 (.bi Bi.lcm (.cons false (.var 1) (.cons false (.op O2.ixT (.var 2) (.int 1)) .nil))))))
    (.ret (.tup (.cons false (XN.e (XN.lc (.list (.var 0)) (.name 2) .yes (.op O2.mul (.op O2.ixT (.var 2) (.int 0)) (.op O2.div (.var 1) (.op O2.ixT (.var 2) (.int 1)))) [2])) (.cons false (.var 1) .nil))))))
@[irreducible] noncomputable def fn_scaled (T : Tx K mg) : Fn := ⟨1, false, fun as => runX (xs_scaled T) false 2 as⟩
theorem fnf_scaled (T : Tx K mg) (as : List Av) : (fn_scaled T).f as = runX (xs_scaled T) false 2 as := by unfold fn_scaled; rfl
theorem fnm_scaled (T : Tx K mg) : (fn_scaled T).m = 1 := by unfold fn_scaled; rfl
theorem fno_scaled (T : Tx K mg) : (fn_scaled T).own = false := by unfold fn_scaled; rfl
@[irreducible] noncomputable def m_scaled (fractions : (List (Int × Int))) : Rs ((List Int) × Int) :=
  ((forR (fun (pair : (Int × Int)) (scale : Int) =>
  (((lcmC scale pair.2)).bind fun scale1 =>
  (Rs.ok scale1))) fractions 1).bind fun (scale : Int) =>
  ((lcM (β := Int) fractions (fun (pair1 : (Int × Int)) => (Rs.ok true)) (fun (pair1 : (Int × Int)) => (((divC scale pair1.2)).bind fun u => (mulC pair1.1 u)))).bind fun u1 => .ok (u1, scale)))
theorem r_scaled (T : Tx K mg) (fractions : (List (Int × Int))) : Si ((fn_scaled T).f [.l (List.map (eT2 eI eI).e fractions)]) (m_scaled fractions) (eT2 (eL eI) eI).v := by
  rw [fnf_scaled]
  exact si_runX (show SS (xs_scaled T) [.bl (List.map (eT2 eI eI).e fractions), .x, .x] (m_scaled fractions) (PF false (eT2 (eL eI) eI).v) from by
    unfold xs_scaled m_scaled
    exact (ss_set (st1 := [.bl (List.map (eT2 eI eI).e fractions), .v (eI.v 1), .x]) sv_int rfl
  (ss_forR (F := (eT2 eI eI).e) (es := fun (scale : Int) => [.bl (List.map (eT2 eI eI).e fractions), .v (eI.v scale), .x]) (s0 := 1) (si_list (sw_varb rfl)) rfl (fun _ => rfl)
  (fun (pair : (Int × Int)) (scale : Int) => ⟨[.bl (List.map (eT2 eI eI).e fractions), .v (eI.v scale), .v ((eT2 eI eI).v pair)], rfl, rfl,
  (ss_post (ss_last (ss_setI (st1 := fun scale1 => [.bl (List.map (eT2 eI eI).e fractions), .v (eI.v scale1), .v ((eT2 eI eI).v pair)]) (sv_bi (sc_p (sv_var rfl) (sc_p (sv_op (sx_p (sv_var rfl) (sx_p sv_int (so_ixT (E := eI) rfl)))) (sc_nil so_lcm)))) (fun _ => rfl) fun scale1 =>
  (ss_nx (.inl rfl)))))⟩) fun (scale : Int) =>
  (ss_retM (sv_tup (sc_i (sv_eE (sn_lc (E := eI) (F := (eT2 eI eI)) (si_list (sw_varb rfl)) rfl rfl (fun (pair1 : (Int × Int)) => ⟨[.bl (List.map (eT2 eI eI).e fractions), .v (eI.v scale), .v ((eT2 eI eI).v pair1)], rfl, st_yes, (sv_op (sx_p (sv_op (sx_p (sv_var rfl) (sx_p sv_int (so_ixT (E := eI) rfl)))) (sx_i (sv_op (sx_p (sv_var rfl) (sx_p (sv_op (sx_p (sv_var rfl) (sx_p sv_int (so_ixT (E := eI) rfl)))) so_div))) fun u => so_mul)))⟩))) fun u1 => (sc_p (sv_var rfl) (sc_nil (si_tup (e := (eT2 (eL eI) eI).v) rfl rfl))))) fun _ => rfl))))
noncomputable def xs_added (T : Tx K mg) : XS K := (.seq (.asg (.tup (.cons (.name 1) (.cons (.name 2) .nil))) (.call (fn_scaled T) (fno_scaled T) (.cons true (.var 0) .nil)))
    (.ret (.call (fn_fraction T) (fno_fraction T) (.cons false (.bi Bi.sum (.cons true (.var 1) .nil)) (.cons false (.var 2) .nil)))))
@[irreducible] noncomputable def fn_added (T : Tx K mg) : Fn := ⟨1, false, fun as => runX (xs_added T) false 2 as⟩
theorem fnf_added (T : Tx K mg) (as : List Av) : (fn_added T).f as = runX (xs_added T) false 2 as := by unfold fn_added; rfl
theorem fnm_added (T : Tx K mg) : (fn_added T).m = 1 := by unfold fn_added; rfl
theorem fno_added (T : Tx K mg) : (fn_added T).own = false := by unfold fn_added; rfl
@[irreducible] noncomputable def m_added (T : Tx K mg) (fractions : (List (Int × Int))) : Rs (Int × Int) :=
  ((m_scaled fractions).bind fun p =>
  (m_fraction T p.1.sum p.2))
theorem r_added (T : Tx K mg) (fractions : (List (Int × Int))) : Si ((fn_added T).f [.l (List.map (eT2 eI eI).e fractions)]) (m_added T fractions) (eT2 eI eI).v := by
  rw [fnf_added]
  exact si_runX (show SS (xs_added T) [.bl (List.map (eT2 eI eI).e fractions), .x, .x] (m_added T fractions) (PF false (eT2 eI eI).v) from by
    unfold xs_added m_added
    exact (ss_asgI (st1 := fun p => [.bl (List.map (eT2 eI eI).e fractions), .v ((eL eI).v p.1), .v (eI.v p.2)]) (sv_call (sc_lp (sl_varb rfl) (sc_nil (si_fn (fnm_scaled T) (r_scaled T _))))) (fun _ => rfl) (fun _ => rfl) (fun _ => rfl) fun p =>
  (ss_retM (sv_call (sc_p (sv_bi (sc_lp (sl_varv rfl) (sc_nil so_sum))) (sc_p (sv_var rfl) (sc_nil (si_fn (fnm_fraction T) (r_fraction T _ _)))))) fun _ => rfl)))
noncomputable def xs_Program___init__ (T : Tx K mg) : XS K := (.seq (.ite (.not (.test (.chain O2.le O2.le (.int 1) (.bi Bi.len (.cons true (.var 1) .nil)) (.int 40))))
    (.raise T.c_OutOfRange T.x_OutOfRange.1 T.x_OutOfRange.2.1 (.cons false (.bi Bi.len (.cons true (.var 1) .nil)) .nil))
    XS.nx)
    (.seq (.ite (.test (.op O2.gt (.bi Bi.len (.cons true (.var 2) .nil)) (.int 80)))
    (.raise T.c_TooMany T.x_TooMany.1 T.x_TooMany.2.1 (.cons false (.bi Bi.len (.cons true (.var 2) .nil)) .nil))
    XS.nx)
    (.seq (.for_ (.enum (.var 2)) (.tup (.cons (.name 3) (.cons (.tup (.cons (.name 4) (.cons (.name 5) (.cons (.name 6) .nil)))) .nil))) (.post [3, 4, 5, 6] (.seq (.ite (.test (.op O2.ne (.bi Bi.len (.cons true (.var 4) .nil)) (.bi Bi.len (.cons true (.var 1) .nil))))
    (.raise T.c_WrongSize T.x_WrongSize.1 T.x_WrongSize.2.1 (.cons false (.var 3) .nil))
    XS.nx)
    (.ite (.test (.inK true (.var 5) T.c_RELATIONS [PySem.Str.ofString "least", PySem.Str.ofString "most", PySem.Str.ofString "equal"] T.q_RELATIONS))
    (.raise T.c_BadRelation T.x_BadRelation.1 T.x_BadRelation.2.1 (.cons false (.var 3) .nil))
    XS.nx))))
    (.seq (.setfld 0 T.c_Program T.cl_Program "_prices" T.na_Program__prices (XN.e (XN.bi BiN.list (.cons true (.var 1) .nil))))
    (.setfld 0 T.c_Program T.cl_Program "_rows" T.na_Program__rows (XN.e (XN.lc (.list (.var 2)) (.tup (.cons (.name 4) (.cons (.name 5) (.cons (.name 7) .nil)))) .yes (.tup (.cons false (XN.e (XN.bi BiN.list (.cons true (.var 4) .nil))) (.cons false (.var 5) (.cons false (.var 7) .nil)))) [4, 5, 7])))))))
@[irreducible] noncomputable def m_Program___init__ (T : Tx K mg) (prices : (List Int)) (rows : (List ((List Int) × Str × Int))) : Rs Ob_Program :=
  (if (!(decide (1 ≤ (lenI prices)) && decide ((lenI prices) ≤ 40))) = true then
  (Rs.ex T.c_OutOfRange (lenI prices))
  else (if (decide ((lenI rows) > 80)) = true then
  (Rs.ex T.c_TooMany (lenI rows))
  else ((forR (fun (x : (Int × ((List Int) × Str × Int))) (_ : Unit) =>
  (if (!decide ((lenI x.2.1) = (lenI prices))) = true then
  (Rs.ex T.c_WrongSize x.1)
  else (if (if true then !decide (x.2.2.1 ∈ [PySem.Str.ofString "least", PySem.Str.ofString "most", PySem.Str.ofString "equal"]) else decide (x.2.2.1 ∈ [PySem.Str.ofString "least", PySem.Str.ofString "most", PySem.Str.ofString "equal"])) = true then
  (Rs.ex T.c_BadRelation x.1)
  else (Rs.ok ())))) (enumL rows) ()).bind fun (_ : Unit) =>
  ((lcM (β := ((List Int) × Str × Int)) rows (fun (x1 : ((List Int) × Str × Int)) => (Rs.ok true)) (fun (x1 : ((List Int) × Str × Int)) => (Rs.ok (x1.1, x1.2.1, x1.2.2)))).bind fun rows1 =>
  (Rs.ok (prices, rows1))))))
@[irreducible] noncomputable def fn_Program___init__ (T : Tx K mg) : FnI := FnI.of 2 (fun t : (List Int) × (List ((List Int) × Str × Int)) => [.v ((eL eI).v t.1), .v ((eL (eT3 (eL eI) eS eI)).v t.2)]) (fun t => m_Program___init__ T t.1 t.2) fo_Program
theorem fnm_Program___init__ (T : Tx K mg) : (fn_Program___init__ T).m = 2 := by unfold fn_Program___init__; rfl
theorem r0_Program___init__ (T : Tx K mg) (prices : (List Int)) (rows : (List ((List Int) × Str × Int))) (a : Addr) : Si (runI (xs_Program___init__ T) T.c_Program a 5 [.v ((eL eI).v prices), .v ((eL (eT3 (eL eI) eS eI)).v rows)]) (m_Program___init__ T prices rows) fo_Program := si_runI (show SS (xs_Program___init__ T) [.oi T.c_Program a [], .v ((eL eI).v prices), .v ((eL (eT3 (eL eI) eS eI)).v rows), .x, .x, .x, .x, .x] (m_Program___init__ T prices rows) (PIn T.c_Program a fo_Program) from by
  unfold xs_Program___init__ m_Program___init__
  exact (ss_iteX (st_not (st_test (sv_chain ⟨rfl, rfl, rfl⟩ sv_int (sv_bi (sc_lp (sl_varv rfl) (sc_nil so_len))) sv_int so_le so_le)))
  (ss_raise (sv_bi (sc_lp (sl_varv rfl) (sc_nil so_len))))
  (ss_nxS (ss_iteX (st_test (sv_op (sx_p (sv_bi (sc_lp (sl_varv rfl) (sc_nil so_len))) (sx_p sv_int so_gt))))
  (ss_raise (sv_bi (sc_lp (sl_varv rfl) (sc_nil so_len))))
  (ss_nxS (ss_forR (F := (eT2 eI (eT3 (eL eI) eS eI)).e) (es := fun (_ : Unit) => [.oi T.c_Program a [], .v ((eL eI).v prices), .v ((eL (eT3 (eL eI) eS eI)).v rows), .x, .x, .x, .x, .x]) (s0 := ()) (si_enum (sw_varv rfl)) rfl (fun _ => rfl)
  (fun (x : (Int × ((List Int) × Str × Int))) (_ : Unit) => ⟨[.oi T.c_Program a [], .v ((eL eI).v prices), .v ((eL (eT3 (eL eI) eS eI)).v rows), .v (eI.v x.1), .v ((eL eI).v x.2.1), .v (eS.v x.2.2.1), .v (eI.v x.2.2.2), .x], rfl, rfl,
  (ss_post (ss_iteX (st_test (sv_op (sx_p (sv_bi (sc_lp (sl_varv rfl) (sc_nil so_len))) (sx_p (sv_bi (sc_lp (sl_varv rfl) (sc_nil so_len))) so_neI))))
  (ss_raise (sv_var rfl))
  (ss_nxS (ss_ite (st_test (sv_inK (sv_var rfl)))
  (ss_raise (sv_var rfl))
  (ss_nx (.inl rfl))))))⟩) fun (_ : Unit) =>
  (ss_setfld (E := (eL eI)) (st1 := [.oi T.c_Program a [("_prices", (eL eI).e prices)], .v ((eL eI).v prices), .v ((eL (eT3 (eL eI) eS eI)).v rows), .x, .x, .x, .x, .x]) rfl rfl rfl (sv_eE (sn_bi (sc_lp (sl_varv rfl) (sc_nil so_list)))) rfl
  (ss_last (ss_setfldI (E := (eL (eT3 (eL eI) eS eI))) (st1 := fun rows1 => [.oi T.c_Program a [("_prices", (eL eI).e prices), ("_rows", (eL (eT3 (eL eI) eS eI)).e rows1)], .v ((eL eI).v prices), .v ((eL (eT3 (eL eI) eS eI)).v rows), .x, .x, .x, .x, .x]) rfl rfl rfl (sv_eE (sn_lc (E := (eT3 (eL eI) eS eI)) (F := (eT3 (eL eI) eS eI)) (si_list (sw_varv rfl)) rfl rfl (fun (x1 : ((List Int) × Str × Int)) => ⟨[.oi T.c_Program a [("_prices", (eL eI).e prices)], .v ((eL eI).v prices), .v ((eL (eT3 (eL eI) eS eI)).v rows), .x, .v ((eL eI).v x1.1), .v (eS.v x1.2.1), .x, .v (eI.v x1.2.2)], rfl, st_yes, (sv_tup (sc_p (sv_eE (sn_bi (sc_lp (sl_varv rfl) (sc_nil so_list)))) (sc_p (sv_var rfl) (sc_p (sv_var rfl) (sc_nil (si_tup (e := (eT3 (eL eI) eS eI).v) rfl rfl))))))⟩))) (fun _ => rfl) fun rows1 =>
  (ss_nx (pi_nx rfl rfl)))))))))))
theorem r_Program___init__ (T : Tx K mg) (prices : (List Int)) (rows : (List ((List Int) × Str × Int))) : Si ((fn_Program___init__ T).f [.v ((eL eI).v prices), .v ((eL (eT3 (eL eI) eS eI)).v rows)]) (m_Program___init__ T prices rows) fo_Program := by
  unfold fn_Program___init__
  exact FnI.of_si (dec := (fun t : (List Int) × (List ((List Int) × Str × Int)) => [.v ((eL eI).v t.1), .v ((eL (eT3 (eL eI) eS eI)).v t.2)])) (M := fun t => m_Program___init__ T t.1 t.2) (fs := fo_Program) (fun t t' h => by
    obtain ⟨prices_, rows_⟩ := t
    obtain ⟨prices_', rows_'⟩ := t'
    simp only [List.cons.injEq, Av.v.injEq, En.v, Vl.d.injEq, Vl.i.injEq, and_true, true_and] at h
    obtain ⟨h0, h1⟩ := h
    have e0 := EqV.inj h0
    subst e0
    have e1 := EqV.inj h1
    subst e1
    rfl) (prices, rows)
theorem run_Program___init__ (T : Tx K mg) (xs : List Av) (hn : (fn_Program___init__ T).f xs ≠ .no) (a : Addr) : runI (xs_Program___init__ T) T.c_Program a 5 xs = (fn_Program___init__ T).f xs := by
  unfold fn_Program___init__ at hn ⊢
  exact FnI.of_run (fun t a => r0_Program___init__ T t.1 t.2 a) xs hn a
noncomputable def xs_Program_count (T : Tx K mg) : XS K := (.ret (.bi Bi.len (.cons true (.fld T.c_Program T.cl_Program "_prices" T.na_Program__prices (.var 0)) .nil)))
@[irreducible] noncomputable def fn_Program_count (T : Tx K mg) : Fn := ⟨1, false, fun as => runX (xs_Program_count T) false 0 as⟩
theorem fnf_Program_count (T : Tx K mg) (as : List Av) : (fn_Program_count T).f as = runX (xs_Program_count T) false 0 as := by unfold fn_Program_count; rfl
theorem fnm_Program_count (T : Tx K mg) : (fn_Program_count T).m = 1 := by unfold fn_Program_count; rfl
theorem fno_Program_count (T : Tx K mg) : (fn_Program_count T).own = false := by unfold fn_Program_count; rfl
@[irreducible] noncomputable def m_Program_count (self : Ob_Program) : Rs Int :=
  (Rs.ok (lenI self.1))
theorem r_Program_count (T : Tx K mg) (self : Ob_Program) : Si ((fn_Program_count T).f [.v ((vo_Program T) self)]) (m_Program_count self) eI.v := by
  rw [fnf_Program_count]
  exact si_runX (show SS (xs_Program_count T) [.v ((vo_Program T) self)] (m_Program_count self) (PF false eI.v) from by
    unfold xs_Program_count m_Program_count
    exact (ss_ret (sv_bi (sc_lp (sl_ofE (sv_fld (E := (eL eI)) (sv_var rfl) rfl rfl) rfl) (sc_nil so_len))) rfl))
noncomputable def xs_Program_prices (T : Tx K mg) : XS K := (.ret (XN.e (XN.bi BiN.list (.cons true (.fld T.c_Program T.cl_Program "_prices" T.na_Program__prices (.var 0)) .nil))))
@[irreducible] noncomputable def fn_Program_prices (T : Tx K mg) : Fn := ⟨1, false, fun as => runX (xs_Program_prices T) false 0 as⟩
theorem fnf_Program_prices (T : Tx K mg) (as : List Av) : (fn_Program_prices T).f as = runX (xs_Program_prices T) false 0 as := by unfold fn_Program_prices; rfl
theorem fnm_Program_prices (T : Tx K mg) : (fn_Program_prices T).m = 1 := by unfold fn_Program_prices; rfl
theorem fno_Program_prices (T : Tx K mg) : (fn_Program_prices T).own = false := by unfold fn_Program_prices; rfl
@[irreducible] noncomputable def m_Program_prices (self : Ob_Program) : Rs (List Int) :=
  (Rs.ok self.1)
theorem r_Program_prices (T : Tx K mg) (self : Ob_Program) : Si ((fn_Program_prices T).f [.v ((vo_Program T) self)]) (m_Program_prices self) (eL eI).v := by
  rw [fnf_Program_prices]
  exact si_runX (show SS (xs_Program_prices T) [.v ((vo_Program T) self)] (m_Program_prices self) (PF false (eL eI).v) from by
    unfold xs_Program_prices m_Program_prices
    exact (ss_ret (sv_eE (sn_bi (sc_lp (sl_ofE (sv_fld (E := (eL eI)) (sv_var rfl) rfl rfl) rfl) (sc_nil so_list)))) rfl))
noncomputable def xs_Program_rows (T : Tx K mg) : XS K := (.ret (XN.e (XN.lc (.list (.fld T.c_Program T.cl_Program "_rows" T.na_Program__rows (.var 0))) (.tup (.cons (.name 1) (.cons (.name 2) (.cons (.name 3) .nil)))) .yes (.tup (.cons false (XN.e (XN.bi BiN.list (.cons true (.var 1) .nil))) (.cons false (.var 2) (.cons false (.var 3) .nil)))) [1, 2, 3])))
@[irreducible] noncomputable def fn_Program_rows (T : Tx K mg) : Fn := ⟨1, false, fun as => runX (xs_Program_rows T) false 3 as⟩
theorem fnf_Program_rows (T : Tx K mg) (as : List Av) : (fn_Program_rows T).f as = runX (xs_Program_rows T) false 3 as := by unfold fn_Program_rows; rfl
theorem fnm_Program_rows (T : Tx K mg) : (fn_Program_rows T).m = 1 := by unfold fn_Program_rows; rfl
theorem fno_Program_rows (T : Tx K mg) : (fn_Program_rows T).own = false := by unfold fn_Program_rows; rfl
@[irreducible] noncomputable def m_Program_rows (self : Ob_Program) : Rs (List ((List Int) × Str × Int)) :=
  (lcM (β := ((List Int) × Str × Int)) self.2 (fun (x : ((List Int) × Str × Int)) => (Rs.ok true)) (fun (x : ((List Int) × Str × Int)) => (Rs.ok (x.1, x.2.1, x.2.2))))
theorem r_Program_rows (T : Tx K mg) (self : Ob_Program) : Si ((fn_Program_rows T).f [.v ((vo_Program T) self)]) (m_Program_rows self) (eL (eT3 (eL eI) eS eI)).v := by
  rw [fnf_Program_rows]
  exact si_runX (show SS (xs_Program_rows T) [.v ((vo_Program T) self), .x, .x, .x] (m_Program_rows self) (PF false (eL (eT3 (eL eI) eS eI)).v) from by
    unfold xs_Program_rows m_Program_rows
    exact (ss_retM (sv_eE (sn_lc (E := (eT3 (eL eI) eS eI)) (F := (eT3 (eL eI) eS eI)) (si_list (sw_ofE (sv_fld (E := (eL (eT3 (eL eI) eS eI))) (sv_var rfl) rfl rfl) rfl)) rfl rfl (fun (x : ((List Int) × Str × Int)) => ⟨[.v ((vo_Program T) self), .v ((eL eI).v x.1), .v (eS.v x.2.1), .v (eI.v x.2.2)], rfl, st_yes, (sv_tup (sc_p (sv_eE (sn_bi (sc_lp (sl_varv rfl) (sc_nil so_list)))) (sc_p (sv_var rfl) (sc_p (sv_var rfl) (sc_nil (si_tup (e := (eT3 (eL eI) eS eI).v) rfl rfl))))))⟩))) fun _ => rfl))
noncomputable def xs_dot (T : Tx K mg) : XS K := (.ret (.bi Bi.sum (.cons true (XN.e (XN.lc (.zip (.var 0) (.var 1)) (.tup (.cons (.name 2) (.cons (.name 3) .nil))) .yes (.op O2.mul (.var 2) (.var 3)) [2, 3])) .nil)))
@[irreducible] noncomputable def fn_dot (T : Tx K mg) : Fn := ⟨2, false, fun as => runX (xs_dot T) false 2 as⟩
theorem fnf_dot (T : Tx K mg) (as : List Av) : (fn_dot T).f as = runX (xs_dot T) false 2 as := by unfold fn_dot; rfl
theorem fnm_dot (T : Tx K mg) : (fn_dot T).m = 2 := by unfold fn_dot; rfl
theorem fno_dot (T : Tx K mg) : (fn_dot T).own = false := by unfold fn_dot; rfl
@[irreducible] noncomputable def m_dot (numbers : (List Int)) (others : (List Int)) : Rs Int :=
  ((lcM (β := Int) (numbers.zip others) (fun (x : (Int × Int)) => (Rs.ok true)) (fun (x : (Int × Int)) => ((mulC x.1 x.2)))).bind fun u => Rs.ok u.sum)
theorem r_dot (T : Tx K mg) (numbers : (List Int)) (others : (List Int)) : Si ((fn_dot T).f [.v ((eL eI).v numbers), .v ((eL eI).v others)]) (m_dot numbers others) eI.v := by
  rw [fnf_dot]
  exact si_runX (show SS (xs_dot T) [.v ((eL eI).v numbers), .v ((eL eI).v others), .x, .x] (m_dot numbers others) (PF false eI.v) from by
    unfold xs_dot m_dot
    exact (ss_retM (sv_bi (sc_li (sl_ofE (sv_eE (sn_lc (E := eI) (F := (eT2 eI eI)) (si_zip (sw_varv rfl) (sw_varv rfl)) rfl rfl (fun (x : (Int × Int)) => ⟨[.v ((eL eI).v numbers), .v ((eL eI).v others), .v (eI.v x.1), .v (eI.v x.2)], rfl, st_yes, (sv_op (sx_p (sv_var rfl) (sx_p (sv_var rfl) so_mul)))⟩))) rfl) fun u => (sc_nil so_sum))) fun _ => rfl))
noncomputable def xs_is_fit (T : Tx K mg) : XS K := (.seq (.ite (.test (.op O2.eq (.var 0) (.str (PySem.Str.ofString "least"))))
    (.ret (.op O2.ge (.op O2.ixT (.var 1) (.int 0)) (.int 0)))
    XS.nx)
    (.ret (.orV (.op O2.eq (.var 0) (.str (PySem.Str.ofString "equal"))) (.op O2.le (.op O2.ixT (.var 1) (.int 0)) (.int 0)))))
@[irreducible] noncomputable def fn_is_fit (T : Tx K mg) : Fn := ⟨2, false, fun as => runX (xs_is_fit T) false 0 as⟩
theorem fnf_is_fit (T : Tx K mg) (as : List Av) : (fn_is_fit T).f as = runX (xs_is_fit T) false 0 as := by unfold fn_is_fit; rfl
theorem fnm_is_fit (T : Tx K mg) : (fn_is_fit T).m = 2 := by unfold fn_is_fit; rfl
theorem fno_is_fit (T : Tx K mg) : (fn_is_fit T).own = false := by unfold fn_is_fit; rfl
@[irreducible] noncomputable def m_is_fit (relation : Str) (multiplier : (Int × Int)) : Rs Bool :=
  (if (decide (relation = (PySem.Str.ofString "least"))) = true then
  (Rs.ok (decide (multiplier.1 ≥ 0)))
  else (Rs.ok ((decide (relation = (PySem.Str.ofString "equal"))) || (decide (multiplier.1 ≤ 0)))))
theorem r_is_fit (T : Tx K mg) (relation : Str) (multiplier : (Int × Int)) : Si ((fn_is_fit T).f [.v (eS.v relation), .v ((eT2 eI eI).v multiplier)]) (m_is_fit relation multiplier) eB.v := by
  rw [fnf_is_fit]
  exact si_runX (show SS (xs_is_fit T) [.v (eS.v relation), .v ((eT2 eI eI).v multiplier)] (m_is_fit relation multiplier) (PF false eB.v) from by
    unfold xs_is_fit m_is_fit
    exact (ss_iteX (st_test (sv_op (sx_p (sv_var rfl) (sx_p sv_str so_eqS))))
  (ss_ret (sv_op (sx_p (sv_op (sx_p (sv_var rfl) (sx_p sv_int (so_ixT (E := eI) rfl)))) (sx_p sv_int so_ge))) ⟨rfl, rfl⟩)
  (ss_nxS (ss_ret (sv_or (sv_op (sx_p (sv_var rfl) (sx_p sv_str so_eqS))) (sv_op (sx_p (sv_op (sx_p (sv_var rfl) (sx_p sv_int (so_ixT (E := eI) rfl)))) (sx_p sv_int so_le)))) rfl))))
noncomputable def xs_are_fit (T : Tx K mg) : XS K := (.seq (.set 2 (.meth T.c_Program "rows" (fn_Program_rows T) (fno_Program_rows T) (.var 0) .nil))
    (.seq (.ite (.test (.op O2.ne (.bi Bi.len (.cons true (.var 1) .nil)) (.bi Bi.len (.cons true (.var 2) .nil))))
    (.ret (.bool false))
    XS.nx)
    (.ret (.bi Bi.all (.cons true (XN.e (XN.lc (.zip (.var 2) (.var 1)) (.tup (.cons (.name 3) (.cons (.name 4) .nil))) .yes (.call (fn_is_fit T) (fno_is_fit T) (.cons false (.op O2.ixT (.var 3) (.int 1)) (.cons false (.var 4) .nil))) [3, 4])) .nil)))))
@[irreducible] noncomputable def fn_are_fit (T : Tx K mg) : Fn := ⟨2, false, fun as => runX (xs_are_fit T) false 3 as⟩
theorem fnf_are_fit (T : Tx K mg) (as : List Av) : (fn_are_fit T).f as = runX (xs_are_fit T) false 3 as := by unfold fn_are_fit; rfl
theorem fnm_are_fit (T : Tx K mg) : (fn_are_fit T).m = 2 := by unfold fn_are_fit; rfl
theorem fno_are_fit (T : Tx K mg) : (fn_are_fit T).own = false := by unfold fn_are_fit; rfl
@[irreducible] noncomputable def m_are_fit (program : Ob_Program) (multipliers : (List (Int × Int))) : Rs Bool :=
  ((m_Program_rows program).bind fun rows =>
  (if (!decide ((lenI multipliers) = (lenI rows))) = true then
  (Rs.ok false)
  else ((lcM (β := Bool) (rows.zip multipliers) (fun (x : (((List Int) × Str × Int) × (Int × Int))) => (Rs.ok true)) (fun (x : (((List Int) × Str × Int) × (Int × Int))) => (m_is_fit x.1.2.1 x.2))).bind fun u => Rs.ok (u.all id))))
theorem r_are_fit (T : Tx K mg) (program : Ob_Program) (multipliers : (List (Int × Int))) : Si ((fn_are_fit T).f [.v ((vo_Program T) program), .l (List.map (eT2 eI eI).e multipliers)]) (m_are_fit program multipliers) eB.v := by
  rw [fnf_are_fit]
  exact si_runX (show SS (xs_are_fit T) [.v ((vo_Program T) program), .bl (List.map (eT2 eI eI).e multipliers), .x, .x, .x] (m_are_fit program multipliers) (PF false eB.v) from by
    unfold xs_are_fit m_are_fit
    exact (ss_setI (st1 := fun rows => [.v ((vo_Program T) program), .bl (List.map (eT2 eI eI).e multipliers), .v ((eL (eT3 (eL eI) eS eI)).v rows), .x, .x]) (sv_meth (sv_var rfl) (inst_of rfl) (sc_nil (si_me (fnm_Program_rows T) (r_Program_rows T program)))) (fun _ => rfl) fun rows =>
  (ss_iteX (st_test (sv_op (sx_p (sv_bi (sc_lp (sl_varb rfl) (sc_nil so_len))) (sx_p (sv_bi (sc_lp (sl_varv rfl) (sc_nil so_len))) so_neI))))
  (ss_ret sv_bool ⟨rfl, rfl⟩)
  (ss_nxS (ss_retM (sv_bi (sc_li (sl_ofE (sv_eE (sn_lc (E := eB) (F := (eT2 (eT3 (eL eI) eS eI) (eT2 eI eI))) (si_zip (sw_varv rfl) (sw_varb rfl)) rfl rfl (fun (x : (((List Int) × Str × Int) × (Int × Int))) => ⟨[.v ((vo_Program T) program), .bl (List.map (eT2 eI eI).e multipliers), .v ((eL (eT3 (eL eI) eS eI)).v rows), .v ((eT3 (eL eI) eS eI).v x.1), .v ((eT2 eI eI).v x.2)], rfl, st_yes, (sv_call (sc_p (sv_op (sx_p (sv_var rfl) (sx_p sv_int (so_ixT (E := eS) rfl)))) (sc_p (sv_var rfl) (sc_nil (si_fn (fnm_is_fit T) (r_is_fit T _ _))))))⟩))) rfl) fun u => (sc_nil so_all))) fun _ => rfl)))))
noncomputable def xs_scaled_for (T : Tx K mg) : XS K := (.seq (.ite (.test (.op O2.ne (.bi Bi.len (.cons true (.var 1) .nil)) (.bi Bi.len (.cons true (.var 0) .nil))))
    (.raise T.c_WrongSize T.x_WrongSize.1 T.x_WrongSize.2.1 (.cons false (.int 0) .nil))
    XS.nx)
    (.ret (.call (fn_scaled T) (fno_scaled T) (.cons true (.var 1) .nil))))
@[irreducible] noncomputable def fn_scaled_for (T : Tx K mg) : Fn := ⟨2, false, fun as => runX (xs_scaled_for T) false 0 as⟩
theorem fnf_scaled_for (T : Tx K mg) (as : List Av) : (fn_scaled_for T).f as = runX (xs_scaled_for T) false 0 as := by unfold fn_scaled_for; rfl
theorem fnm_scaled_for (T : Tx K mg) : (fn_scaled_for T).m = 2 := by unfold fn_scaled_for; rfl
theorem fno_scaled_for (T : Tx K mg) : (fn_scaled_for T).own = false := by unfold fn_scaled_for; rfl
@[irreducible] noncomputable def m_scaled_for (T : Tx K mg) (rows : (List ((List Int) × Str × Int))) (multipliers : (List (Int × Int))) : Rs ((List Int) × Int) :=
  (if (!decide ((lenI multipliers) = (lenI rows))) = true then
  (Rs.ex T.c_WrongSize 0)
  else (m_scaled multipliers))
theorem r_scaled_for (T : Tx K mg) (rows : (List ((List Int) × Str × Int))) (multipliers : (List (Int × Int))) : Si ((fn_scaled_for T).f [.v ((eL (eT3 (eL eI) eS eI)).v rows), .l (List.map (eT2 eI eI).e multipliers)]) (m_scaled_for T rows multipliers) (eT2 (eL eI) eI).v := by
  rw [fnf_scaled_for]
  exact si_runX (show SS (xs_scaled_for T) [.v ((eL (eT3 (eL eI) eS eI)).v rows), .bl (List.map (eT2 eI eI).e multipliers)] (m_scaled_for T rows multipliers) (PF false (eT2 (eL eI) eI).v) from by
    unfold xs_scaled_for m_scaled_for
    exact (ss_iteX (st_test (sv_op (sx_p (sv_bi (sc_lp (sl_varb rfl) (sc_nil so_len))) (sx_p (sv_bi (sc_lp (sl_varv rfl) (sc_nil so_len))) so_neI))))
  (ss_raise sv_int)
  (ss_nxS (ss_retM (sv_call (sc_lp (sl_varb rfl) (sc_nil (si_fn (fnm_scaled T) (r_scaled T _))))) fun _ => rfl))))
noncomputable def xs_loads (T : Tx K mg) : XS K := (.seq (.set 2 (.meth T.c_Program "rows" (fn_Program_rows T) (fno_Program_rows T) (.var 0) .nil))
    (.seq (.asg (.tup (.cons (.name 3) (.cons (.name 4) .nil))) (.call (fn_scaled_for T) (fno_scaled_for T) (.cons false (.var 2) (.cons true (.var 1) .nil))))
    (.ret (XN.e (XN.lc (.range1 (.cons false (.meth T.c_Program "count" (fn_Program_count T) (fno_Program_count T) (.var 0) .nil) .nil)) (.name 5) .yes (.call (fn_fraction T) (fno_fraction T) (.cons false (.call (fn_dot T) (fno_dot T) (.cons false (XN.e (XN.lc (.list (.var 2)) (.name 6) .yes (.op O2.ixL (.op O2.ixT (.var 6) (.int 0)) (.var 5)) [6])) (.cons false (.var 3) .nil))) (.cons false (.var 4) .nil))) [5])))))
@[irreducible] noncomputable def fn_loads (T : Tx K mg) : Fn := ⟨2, false, fun as => runX (xs_loads T) false 5 as⟩
theorem fnf_loads (T : Tx K mg) (as : List Av) : (fn_loads T).f as = runX (xs_loads T) false 5 as := by unfold fn_loads; rfl
theorem fnm_loads (T : Tx K mg) : (fn_loads T).m = 2 := by unfold fn_loads; rfl
theorem fno_loads (T : Tx K mg) : (fn_loads T).own = false := by unfold fn_loads; rfl
@[irreducible] noncomputable def m_loads (T : Tx K mg) (program : Ob_Program) (multipliers : (List (Int × Int))) : Rs (List (Int × Int)) :=
  ((m_Program_rows program).bind fun rows =>
  ((m_scaled_for T rows multipliers).bind fun p =>
  (((m_Program_count program).bind fun u => rng1C u).bind fun xs_ => lcM (β := (Int × Int)) xs_ (fun (variable' : Int) => (Rs.ok true)) (fun (variable' : Int) => (((lcM (β := Int) rows (fun (row : ((List Int) × Str × Int)) => (Rs.ok true)) (fun (row : ((List Int) × Str × Int)) => ((ixC row.1 variable')))).bind fun u1 => m_dot u1 p.1).bind fun u2 => m_fraction T u2 p.2)))))
theorem r_loads (T : Tx K mg) (program : Ob_Program) (multipliers : (List (Int × Int))) : Si ((fn_loads T).f [.v ((vo_Program T) program), .l (List.map (eT2 eI eI).e multipliers)]) (m_loads T program multipliers) (eL (eT2 eI eI)).v := by
  rw [fnf_loads]
  exact si_runX (show SS (xs_loads T) [.v ((vo_Program T) program), .bl (List.map (eT2 eI eI).e multipliers), .x, .x, .x, .x, .x] (m_loads T program multipliers) (PF false (eL (eT2 eI eI)).v) from by
    unfold xs_loads m_loads
    exact (ss_setI (st1 := fun rows => [.v ((vo_Program T) program), .bl (List.map (eT2 eI eI).e multipliers), .v ((eL (eT3 (eL eI) eS eI)).v rows), .x, .x, .x, .x]) (sv_meth (sv_var rfl) (inst_of rfl) (sc_nil (si_me (fnm_Program_rows T) (r_Program_rows T program)))) (fun _ => rfl) fun rows =>
  (ss_asgI (st1 := fun p => [.v ((vo_Program T) program), .bl (List.map (eT2 eI eI).e multipliers), .v ((eL (eT3 (eL eI) eS eI)).v rows), .v ((eL eI).v p.1), .v (eI.v p.2), .x, .x]) (sv_call (sc_p (sv_var rfl) (sc_lp (sl_varb rfl) (sc_nil (si_fn (fnm_scaled_for T) (r_scaled_for T _ _)))))) (fun _ => rfl) (fun _ => rfl) (fun _ => rfl) fun p =>
  (ss_retM (sv_eE (sn_lcI (E := (eT2 eI eI)) (F := eI) (si_range1 (sc_i (sv_meth (sv_var rfl) (inst_of rfl) (sc_nil (si_me (fnm_Program_count T) (r_Program_count T program)))) fun u => (sc_nil so_rng1))) rfl rfl (fun (variable' : Int) => ⟨[.v ((vo_Program T) program), .bl (List.map (eT2 eI eI).e multipliers), .v ((eL (eT3 (eL eI) eS eI)).v rows), .v ((eL eI).v p.1), .v (eI.v p.2), .v (eI.v variable'), .x], rfl, st_yes, (sv_call (sc_i (sv_call (sc_i (sv_eE (sn_lc (E := eI) (F := (eT3 (eL eI) eS eI)) (si_list (sw_varv rfl)) rfl rfl (fun (row : ((List Int) × Str × Int)) => ⟨[.v ((vo_Program T) program), .bl (List.map (eT2 eI eI).e multipliers), .v ((eL (eT3 (eL eI) eS eI)).v rows), .v ((eL eI).v p.1), .v (eI.v p.2), .v (eI.v variable'), .v ((eT3 (eL eI) eS eI).v row)], rfl, st_yes, (sv_op (sl_p (sl_ofE (sv_op (sx_p (sv_var rfl) (sx_p sv_int (so_ixT (E := (eL eI)) rfl)))) rfl) (sx_p (sv_var rfl) so_ixL)))⟩))) fun u1 => (sc_p (sv_var rfl) (sc_nil (si_fn (fnm_dot T) (r_dot T _ _)))))) fun u2 => (sc_p (sv_var rfl) (sc_nil (si_fn (fnm_fraction T) (r_fraction T _ _))))))⟩))) fun _ => rfl))))
noncomputable def xs_gain (T : Tx K mg) : XS K := (.seq (.set 2 (.meth T.c_Program "rows" (fn_Program_rows T) (fno_Program_rows T) (.var 0) .nil))
    (.seq (.asg (.tup (.cons (.name 3) (.cons (.name 4) .nil))) (.call (fn_scaled_for T) (fno_scaled_for T) (.cons false (.var 2) (.cons true (.var 1) .nil))))
    (.ret (.call (fn_fraction T) (fno_fraction T) (.cons false (.call (fn_dot T) (fno_dot T) (.cons false (XN.e (XN.lc (.list (.var 2)) (.name 5) .yes (.op O2.ixT (.var 5) (.int 2)) [5])) (.cons false (.var 3) .nil))) (.cons false (.var 4) .nil))))))
@[irreducible] noncomputable def fn_gain (T : Tx K mg) : Fn := ⟨2, false, fun as => runX (xs_gain T) false 4 as⟩
theorem fnf_gain (T : Tx K mg) (as : List Av) : (fn_gain T).f as = runX (xs_gain T) false 4 as := by unfold fn_gain; rfl
theorem fnm_gain (T : Tx K mg) : (fn_gain T).m = 2 := by unfold fn_gain; rfl
theorem fno_gain (T : Tx K mg) : (fn_gain T).own = false := by unfold fn_gain; rfl
@[irreducible] noncomputable def m_gain (T : Tx K mg) (program : Ob_Program) (multipliers : (List (Int × Int))) : Rs (Int × Int) :=
  ((m_Program_rows program).bind fun rows =>
  ((m_scaled_for T rows multipliers).bind fun p =>
  (((lcM (β := Int) rows (fun (row : ((List Int) × Str × Int)) => (Rs.ok true)) (fun (row : ((List Int) × Str × Int)) => (Rs.ok row.2.2))).bind fun u => m_dot u p.1).bind fun u1 => m_fraction T u1 p.2)))
theorem r_gain (T : Tx K mg) (program : Ob_Program) (multipliers : (List (Int × Int))) : Si ((fn_gain T).f [.v ((vo_Program T) program), .l (List.map (eT2 eI eI).e multipliers)]) (m_gain T program multipliers) (eT2 eI eI).v := by
  rw [fnf_gain]
  exact si_runX (show SS (xs_gain T) [.v ((vo_Program T) program), .bl (List.map (eT2 eI eI).e multipliers), .x, .x, .x, .x] (m_gain T program multipliers) (PF false (eT2 eI eI).v) from by
    unfold xs_gain m_gain
    exact (ss_setI (st1 := fun rows => [.v ((vo_Program T) program), .bl (List.map (eT2 eI eI).e multipliers), .v ((eL (eT3 (eL eI) eS eI)).v rows), .x, .x, .x]) (sv_meth (sv_var rfl) (inst_of rfl) (sc_nil (si_me (fnm_Program_rows T) (r_Program_rows T program)))) (fun _ => rfl) fun rows =>
  (ss_asgI (st1 := fun p => [.v ((vo_Program T) program), .bl (List.map (eT2 eI eI).e multipliers), .v ((eL (eT3 (eL eI) eS eI)).v rows), .v ((eL eI).v p.1), .v (eI.v p.2), .x]) (sv_call (sc_p (sv_var rfl) (sc_lp (sl_varb rfl) (sc_nil (si_fn (fnm_scaled_for T) (r_scaled_for T _ _)))))) (fun _ => rfl) (fun _ => rfl) (fun _ => rfl) fun p =>
  (ss_retM (sv_call (sc_i (sv_call (sc_i (sv_eE (sn_lc (E := eI) (F := (eT3 (eL eI) eS eI)) (si_list (sw_varv rfl)) rfl rfl (fun (row : ((List Int) × Str × Int)) => ⟨[.v ((vo_Program T) program), .bl (List.map (eT2 eI eI).e multipliers), .v ((eL (eT3 (eL eI) eS eI)).v rows), .v ((eL eI).v p.1), .v (eI.v p.2), .v ((eT3 (eL eI) eS eI).v row)], rfl, st_yes, (sv_op (sx_p (sv_var rfl) (sx_p sv_int (so_ixT (E := eI) rfl))))⟩))) fun u => (sc_p (sv_var rfl) (sc_nil (si_fn (fnm_dot T) (r_dot T _ _)))))) fun u1 => (sc_p (sv_var rfl) (sc_nil (si_fn (fnm_fraction T) (r_fraction T _ _)))))) fun _ => rfl))))
noncomputable def xs_need_few (T : Tx K mg) : XS K := (.ite (.test (.op O2.gt (.meth T.c_Program "count" (fn_Program_count T) (fno_Program_count T) (.var 0) .nil) (.int 16)))
    (.raise T.c_TooMany T.x_TooMany.1 T.x_TooMany.2.1 (.cons false (.meth T.c_Program "count" (fn_Program_count T) (fno_Program_count T) (.var 0) .nil) .nil))
    XS.nx)
@[irreducible] noncomputable def fn_need_few (T : Tx K mg) : Fn := ⟨1, false, fun as => runX (xs_need_few T) false 0 as⟩
theorem fnf_need_few (T : Tx K mg) (as : List Av) : (fn_need_few T).f as = runX (xs_need_few T) false 0 as := by unfold fn_need_few; rfl
theorem fnm_need_few (T : Tx K mg) : (fn_need_few T).m = 1 := by unfold fn_need_few; rfl
theorem fno_need_few (T : Tx K mg) : (fn_need_few T).own = false := by unfold fn_need_few; rfl
@[irreducible] noncomputable def m_need_few (T : Tx K mg) (program : Ob_Program) : Rs Unit :=
  (((m_Program_count program).bind fun u => Rs.ok (decide (u > 16))).bind fun c => if c = true then
  ((m_Program_count program).bind fun n_ => Rs.ex T.c_TooMany n_)
  else (Rs.ok ()))
theorem r_need_few (T : Tx K mg) (program : Ob_Program) : Si ((fn_need_few T).f [.v ((vo_Program T) program)]) (m_need_few T program) eU.v := by
  rw [fnf_need_few]
  exact si_runX (show SS (xs_need_few T) [.v ((vo_Program T) program)] (m_need_few T program) (PF false eU.v) from by
    unfold xs_need_few m_need_few
    exact (ss_iteI (st_test (sv_op (sx_i (sv_meth (sv_var rfl) (inst_of rfl) (sc_nil (si_me (fnm_Program_count T) (r_Program_count T program)))) fun u => (sx_p sv_int so_gt))))
  (ss_raiseI (sv_meth (sv_var rfl) (inst_of rfl) (sc_nil (si_me (fnm_Program_count T) (r_Program_count T program)))))
  (ss_nx rfl)))
noncomputable def xs_need_fixing (T : Tx K mg) : XS K := (.seq (.drop (.call (fn_need_few T) (fno_need_few T) (.cons false (.var 0) .nil)))
    (.seq (.ite (.test (.op O2.ne (.bi Bi.len (.cons true (.var 1) .nil)) (.meth T.c_Program "count" (fn_Program_count T) (fno_Program_count T) (.var 0) .nil)))
    (.raise T.c_WrongSize T.x_WrongSize.1 T.x_WrongSize.2.1 (.cons false (.int 0) .nil))
    XS.nx)
    (.for_ (.enum (.var 1)) (.tup (.cons (.name 2) (.cons (.name 3) .nil))) (.post [2, 3] (.ite (.and (.test (.op O2.notN (.var 3) .non)) (.test (.op O2.notInT (.var 3) (.tup (.cons false (.int 0) (.cons false (.int 1) .nil))))))
    (.raise T.c_BadFixing T.x_BadFixing.1 T.x_BadFixing.2.1 (.cons false (.var 2) .nil))
    XS.nx)))))
@[irreducible] noncomputable def fn_need_fixing (T : Tx K mg) : Fn := ⟨2, false, fun as => runX (xs_need_fixing T) false 2 as⟩
theorem fnf_need_fixing (T : Tx K mg) (as : List Av) : (fn_need_fixing T).f as = runX (xs_need_fixing T) false 2 as := by unfold fn_need_fixing; rfl
theorem fnm_need_fixing (T : Tx K mg) : (fn_need_fixing T).m = 2 := by unfold fn_need_fixing; rfl
theorem fno_need_fixing (T : Tx K mg) : (fn_need_fixing T).own = false := by unfold fn_need_fixing; rfl
@[irreducible] noncomputable def m_need_fixing (T : Tx K mg) (program : Ob_Program) (fixing : (List (Option Int))) : Rs Unit :=
  ((m_need_few T program).bind fun _ =>
  (((m_Program_count program).bind fun u => Rs.ok (!decide ((lenI fixing) = u))).bind fun c1 => if c1 = true then
  (Rs.ex T.c_WrongSize 0)
  else ((forR (fun (x : (Int × (Option Int))) (_ : Unit) =>
  ((if x.2.isSome = true then ((theO x.2).bind fun u1 => Rs.ok (!decide (u1 ∈ ([0, 1] : List Int)))) else Rs.ok false).bind fun c => if c = true then
  (Rs.ex T.c_BadFixing x.1)
  else (Rs.ok ()))) (enumL fixing) ()).bind fun (_ : Unit) =>
  (Rs.ok ()))))
theorem r_need_fixing (T : Tx K mg) (program : Ob_Program) (fixing : (List (Option Int))) : Si ((fn_need_fixing T).f [.v ((vo_Program T) program), .v ((eL (eO eI)).v fixing)]) (m_need_fixing T program fixing) eU.v := by
  rw [fnf_need_fixing]
  exact si_runX (show SS (xs_need_fixing T) [.v ((vo_Program T) program), .v ((eL (eO eI)).v fixing), .x, .x] (m_need_fixing T program fixing) (PF false eU.v) from by
    unfold xs_need_fixing m_need_fixing
    exact (ss_drop (sv_call (sc_p (sv_var rfl) (sc_nil (si_fn (fnm_need_few T) (r_need_few T _)))))
  (ss_iteXI (st_test (sv_op (sx_p (sv_bi (sc_lp (sl_varv rfl) (sc_nil so_len))) (sx_i (sv_meth (sv_var rfl) (inst_of rfl) (sc_nil (si_me (fnm_Program_count T) (r_Program_count T program)))) fun u => so_neI))))
  (ss_raise sv_int)
  (ss_nxS (ss_last (ss_forR (F := (eT2 eI (eO eI)).e) (es := fun (_ : Unit) => [.v ((vo_Program T) program), .v ((eL (eO eI)).v fixing), .x, .x]) (s0 := ()) (si_enum (sw_varv rfl)) rfl (fun _ => rfl)
  (fun (x : (Int × (Option Int))) (_ : Unit) => ⟨[.v ((vo_Program T) program), .v ((eL (eO eI)).v fixing), .v (eI.v x.1), .v ((eO eI).v x.2)], rfl, rfl,
  (ss_post (ss_iteI (st_andP (st_test (sv_op (sx_p (sv_var rfl) (sx_p sv_nonU so_notN)))) (st_test (sv_op (sx_i (sv_theO (sv_var rfl)) fun u1 => (sx_p (show SV (eT2 eI eI).v _ _ (Rs.ok ((0, 1) : (Int × Int))) from (sv_tup (sc_p sv_int (sc_p sv_int (sc_nil (si_tup (e := (eT2 eI eI).v) rfl rfl)))))) (so_notInT (ns := ([0, 1] : List Int)) rfl))))))
  (ss_raise (sv_var rfl))
  (ss_nx (.inl rfl))))⟩) fun (_ : Unit) =>
  (ss_nx rfl)))))))
noncomputable def xs_bound_with (T : Tx K mg) : XS K := (.seq (.setN 4 (XN.lst (.cons false (.call (fn_gain T) (fno_gain T) (.cons false (.var 0) (.cons true (.var 3) .nil))) .nil)))
    (.seq (.for_ (.zip3 (.var 1) (.call (fn_loads T) (fno_loads T) (.cons false (.var 0) (.cons true (.var 3) .nil))) (.var 2)) (.tup (.cons (.name 5) (.cons (.name 6) (.cons (.name 7) .nil)))) (.post [5, 6, 7, 8] (.seq (.set 8 (.call (fn_minus T) (fno_minus T) (.cons false (.tup (.cons false (.var 5) (.cons false (.int 1) .nil))) (.cons false (.var 6) .nil))))
    (.ite (.or (.test (.op O2.eqD (.var 7) (.int 1))) (.and (.test (.op O2.isN (.var 7) .non)) (.test (.op O2.lt (.op O2.ixT (.var 8) (.int 0)) (.int 0)))))
    (.app 4 (.var 8))
    XS.nx))))
    (.ret (.call (fn_added T) (fno_added T) (.cons true (.var 4) .nil)))))
@[irreducible] noncomputable def fn_bound_with (T : Tx K mg) : Fn := ⟨4, false, fun as => runX (xs_bound_with T) false 5 as⟩
theorem fnf_bound_with (T : Tx K mg) (as : List Av) : (fn_bound_with T).f as = runX (xs_bound_with T) false 5 as := by unfold fn_bound_with; rfl
theorem fnm_bound_with (T : Tx K mg) : (fn_bound_with T).m = 4 := by unfold fn_bound_with; rfl
theorem fno_bound_with (T : Tx K mg) : (fn_bound_with T).own = false := by unfold fn_bound_with; rfl
@[irreducible] noncomputable def m_bound_with (T : Tx K mg) (program : Ob_Program) (prices : (List Int)) (fixing : (List (Option Int))) (multipliers : (List (Int × Int))) : Rs (Int × Int) :=
  (((m_gain T program multipliers).bind fun u => .ok ([u] : List (Int × Int))).bind fun parts =>
  (((qu (Rs.ok prices)).bind fun x_ => (qu (m_loads T program multipliers)).bind fun y_ => (qu (Rs.ok fixing)).bind fun z_ => Rs.ok (zip3 x_ y_ z_)).bind fun xs_ => (forR (fun (x : (Int × (Int × Int) × (Option Int))) (parts1 : (List (Int × Int))) =>
  ((m_minus T (x.1, 1) x.2.1).bind fun rest =>
  (if ((decide (x.2.2 = (some 1))) || (x.2.2.isNone && (decide (rest.1 < 0)))) = true then
  ((pushC parts1 rest).bind fun parts2 =>
  (Rs.ok parts2))
  else (Rs.ok parts1)))) xs_ parts).bind fun (parts1 : (List (Int × Int))) =>
  (m_added T parts1)))
theorem r_bound_with (T : Tx K mg) (program : Ob_Program) (prices : (List Int)) (fixing : (List (Option Int))) (multipliers : (List (Int × Int))) : Si ((fn_bound_with T).f [.v ((vo_Program T) program), .v ((eL eI).v prices), .v ((eL (eO eI)).v fixing), .l (List.map (eT2 eI eI).e multipliers)]) (m_bound_with T program prices fixing multipliers) (eT2 eI eI).v := by
  rw [fnf_bound_with]
  exact si_runX (show SS (xs_bound_with T) [.v ((vo_Program T) program), .v ((eL eI).v prices), .v ((eL (eO eI)).v fixing), .bl (List.map (eT2 eI eI).e multipliers), .x, .x, .x, .x, .x] (m_bound_with T program prices fixing multipliers) (PF false (eT2 eI eI).v) from by
    unfold xs_bound_with m_bound_with
    exact (ss_setNI (st1 := fun parts => [.v ((vo_Program T) program), .v ((eL eI).v prices), .v ((eL (eO eI)).v fixing), .bl (List.map (eT2 eI eI).e multipliers), .ol (List.map (eT2 eI eI).e parts), .x, .x, .x, .x]) (sn_lst (sc_i (sv_call (sc_p (sv_var rfl) (sc_lp (sl_varb rfl) (sc_nil (si_fn (fnm_gain T) (r_gain T _ _)))))) fun u => (sc_nil (si_lst (f := List.map (eT2 eI eI).e) rfl rfl)))) (fun _ => rfl) rfl fun parts =>
  (ss_forRI (F := (eT3 eI (eT2 eI eI) (eO eI)).e) (es := fun (parts1 : (List (Int × Int))) => [.v ((vo_Program T) program), .v ((eL eI).v prices), .v ((eL (eO eI)).v fixing), .bl (List.map (eT2 eI eI).e multipliers), .ol (List.map (eT2 eI eI).e parts1), .x, .x, .x, .x]) (s0 := parts) (si_zip3 (sw_varv rfl) (sw_ofE (sv_call (sc_p (sv_var rfl) (sc_lp (sl_varb rfl) (sc_nil (si_fn (fnm_loads T) (r_loads T _ _)))))) rfl) (sw_varv rfl)) rfl (fun _ => rfl)
  (fun (x : (Int × (Int × Int) × (Option Int))) (parts1 : (List (Int × Int))) => ⟨[.v ((vo_Program T) program), .v ((eL eI).v prices), .v ((eL (eO eI)).v fixing), .bl (List.map (eT2 eI eI).e multipliers), .ol (List.map (eT2 eI eI).e parts1), .v (eI.v x.1), .v ((eT2 eI eI).v x.2.1), .v ((eO eI).v x.2.2), .x], rfl, rfl,
  (ss_post (ss_setI (st1 := fun rest => [.v ((vo_Program T) program), .v ((eL eI).v prices), .v ((eL (eO eI)).v fixing), .bl (List.map (eT2 eI eI).e multipliers), .ol (List.map (eT2 eI eI).e parts1), .v (eI.v x.1), .v ((eT2 eI eI).v x.2.1), .v ((eO eI).v x.2.2), .v ((eT2 eI eI).v rest)]) (sv_call (sc_p (sv_tup (sc_p (sv_var rfl) (sc_p sv_int (sc_nil (si_tup (e := (eT2 eI eI).v) rfl rfl))))) (sc_p (sv_var rfl) (sc_nil (si_fn (fnm_minus T) (r_minus T _ _)))))) (fun _ => rfl) fun rest =>
  (ss_ite (st_or (st_test (sv_op (sx_p (sv_var rfl) (sx_p (sv_some sv_int) (so_eqD (E := (eO eI))))))) (st_and (st_test (sv_op (sx_p (sv_var rfl) (sx_p sv_nonU so_isN)))) (st_test (sv_op (sx_p (sv_op (sx_p (sv_var rfl) (sx_p sv_int (so_ixT (E := eI) rfl)))) (sx_p sv_int so_lt))))))
  (ss_last (ss_app (E := (eT2 eI eI)) (st1 := fun parts2 => [.v ((vo_Program T) program), .v ((eL eI).v prices), .v ((eL (eO eI)).v fixing), .bl (List.map (eT2 eI eI).e multipliers), .ol (List.map (eT2 eI eI).e parts2), .v (eI.v x.1), .v ((eT2 eI eI).v x.2.1), .v ((eO eI).v x.2.2), .v ((eT2 eI eI).v rest)]) rfl (sv_var rfl) (fun _ => rfl) fun parts2 =>
  (ss_nx (.inl rfl))))
  (ss_nx (.inl rfl)))))⟩) fun (parts1 : (List (Int × Int))) =>
  (ss_retM (sv_call (sc_lp (sl_varo rfl) (sc_nil (si_fn (fnm_added T) (r_added T _))))) fun _ => rfl))))
noncomputable def xs_case_bound (T : Tx K mg) : XS K := (.seq (.drop (.call (fn_need_fixing T) (fno_need_fixing T) (.cons false (.var 0) (.cons false (.var 1) .nil))))
    (.ret (.call (fn_bound_with T) (fno_bound_with T) (.cons false (.var 0) (.cons false (.meth T.c_Program "prices" (fn_Program_prices T) (fno_Program_prices T) (.var 0) .nil) (.cons false (.var 1) (.cons true (.var 2) .nil)))))))
@[irreducible] noncomputable def fn_case_bound (T : Tx K mg) : Fn := ⟨3, false, fun as => runX (xs_case_bound T) false 0 as⟩
theorem fnf_case_bound (T : Tx K mg) (as : List Av) : (fn_case_bound T).f as = runX (xs_case_bound T) false 0 as := by unfold fn_case_bound; rfl
theorem fnm_case_bound (T : Tx K mg) : (fn_case_bound T).m = 3 := by unfold fn_case_bound; rfl
theorem fno_case_bound (T : Tx K mg) : (fn_case_bound T).own = false := by unfold fn_case_bound; rfl
@[irreducible] noncomputable def m_case_bound (T : Tx K mg) (program : Ob_Program) (fixing : (List (Option Int))) (multipliers : (List (Int × Int))) : Rs (Int × Int) :=
  ((m_need_fixing T program fixing).bind fun _ =>
  ((m_Program_prices program).bind fun u => m_bound_with T program u fixing multipliers))
theorem r_case_bound (T : Tx K mg) (program : Ob_Program) (fixing : (List (Option Int))) (multipliers : (List (Int × Int))) : Si ((fn_case_bound T).f [.v ((vo_Program T) program), .v ((eL (eO eI)).v fixing), .l (List.map (eT2 eI eI).e multipliers)]) (m_case_bound T program fixing multipliers) (eT2 eI eI).v := by
  rw [fnf_case_bound]
  exact si_runX (show SS (xs_case_bound T) [.v ((vo_Program T) program), .v ((eL (eO eI)).v fixing), .bl (List.map (eT2 eI eI).e multipliers)] (m_case_bound T program fixing multipliers) (PF false (eT2 eI eI).v) from by
    unfold xs_case_bound m_case_bound
    exact (ss_drop (sv_call (sc_p (sv_var rfl) (sc_p (sv_var rfl) (sc_nil (si_fn (fnm_need_fixing T) (r_need_fixing T _ _))))))
  (ss_retM (sv_call (sc_p (sv_var rfl) (sc_i (sv_meth (sv_var rfl) (inst_of rfl) (sc_nil (si_me (fnm_Program_prices T) (r_Program_prices T program)))) fun u => (sc_p (sv_var rfl) (sc_lp (sl_varb rfl) (sc_nil (si_fn (fnm_bound_with T) (r_bound_with T _ _ _ _)))))))) fun _ => rfl)))
noncomputable def xs_shows_none (T : Tx K mg) : XS K := (.seq (.drop (.call (fn_need_fixing T) (fno_need_fixing T) (.cons false (.var 0) (.cons false (.var 1) .nil))))
    (.seq (.ite (.not (.B (.call (fn_are_fit T) (fno_are_fit T) (.cons false (.var 0) (.cons true (.var 2) .nil)))))
    (.ret (.bool false))
    XS.nx)
    (.ret (.op O2.gt (.op O2.ixT (.call (fn_bound_with T) (fno_bound_with T) (.cons false (.var 0) (.cons false (XN.e (XN.op O2N.rep (XN.e (XN.lst (.cons false (.int 0) .nil))) (.meth T.c_Program "count" (fn_Program_count T) (fno_Program_count T) (.var 0) .nil))) (.cons false (.var 1) (.cons true (.var 2) .nil))))) (.int 0)) (.int 0)))))
@[irreducible] noncomputable def fn_shows_none (T : Tx K mg) : Fn := ⟨3, false, fun as => runX (xs_shows_none T) false 0 as⟩
theorem fnf_shows_none (T : Tx K mg) (as : List Av) : (fn_shows_none T).f as = runX (xs_shows_none T) false 0 as := by unfold fn_shows_none; rfl
theorem fnm_shows_none (T : Tx K mg) : (fn_shows_none T).m = 3 := by unfold fn_shows_none; rfl
theorem fno_shows_none (T : Tx K mg) : (fn_shows_none T).own = false := by unfold fn_shows_none; rfl
@[irreducible] noncomputable def m_shows_none (T : Tx K mg) (program : Ob_Program) (fixing : (List (Option Int))) (multipliers : (List (Int × Int))) : Rs Bool :=
  ((m_need_fixing T program fixing).bind fun _ =>
  (((m_are_fit program multipliers).bind fun u_ => Rs.ok (!u_)).bind fun c => if c = true then
  (Rs.ok false)
  else (((((m_Program_count program).bind fun u => (repC ([0] : List Int) u)).bind fun u1 => m_bound_with T program u1 fixing multipliers).bind fun u2 => Rs.ok u2.1).bind fun u3 => Rs.ok (decide (u3 > 0)))))
theorem r_shows_none (T : Tx K mg) (program : Ob_Program) (fixing : (List (Option Int))) (multipliers : (List (Int × Int))) : Si ((fn_shows_none T).f [.v ((vo_Program T) program), .v ((eL (eO eI)).v fixing), .l (List.map (eT2 eI eI).e multipliers)]) (m_shows_none T program fixing multipliers) eB.v := by
  rw [fnf_shows_none]
  exact si_runX (show SS (xs_shows_none T) [.v ((vo_Program T) program), .v ((eL (eO eI)).v fixing), .bl (List.map (eT2 eI eI).e multipliers)] (m_shows_none T program fixing multipliers) (PF false eB.v) from by
    unfold xs_shows_none m_shows_none
    exact (ss_drop (sv_call (sc_p (sv_var rfl) (sc_p (sv_var rfl) (sc_nil (si_fn (fnm_need_fixing T) (r_need_fixing T _ _))))))
  (ss_iteXI (st_notI (st_B (sv_call (sc_p (sv_var rfl) (sc_lp (sl_varb rfl) (sc_nil (si_fn (fnm_are_fit T) (r_are_fit T _ _))))))))
  (ss_ret sv_bool ⟨rfl, rfl⟩)
  (ss_nxS (ss_retM (sv_op (sx_i (sv_op (sx_i (sv_call (sc_p (sv_var rfl) (sc_i (sv_eE (sn_op (sl_p (sl_ofE (sv_eE (sn_lst (sc_p sv_int (sc_nil (si_lst (f := List.map eI.e) rfl rfl))))) rfl) (sx_i (sv_meth (sv_var rfl) (inst_of rfl) (sc_nil (si_me (fnm_Program_count T) (r_Program_count T program)))) fun u => so_rep)))) fun u1 => (sc_p (sv_var rfl) (sc_lp (sl_varb rfl) (sc_nil (si_fn (fnm_bound_with T) (r_bound_with T _ _ _ _)))))))) fun u2 => (sx_p sv_int (so_ixT (E := eI) rfl)))) fun u3 => (sx_p sv_int so_gt))) fun _ => rfl)))))
noncomputable def xs_first_under (T : Tx K mg) : XS K := (.ret (XN.e (XN.lc (.list (.var 0)) (.name 1) .yes (.ife (.test (.op O2.isN (.var 1) .non)) (.int 0) (.var 1)) [1])))
@[irreducible] noncomputable def fn_first_under (T : Tx K mg) : Fn := ⟨1, false, fun as => runX (xs_first_under T) false 1 as⟩
theorem fnf_first_under (T : Tx K mg) (as : List Av) : (fn_first_under T).f as = runX (xs_first_under T) false 1 as := by unfold fn_first_under; rfl
theorem fnm_first_under (T : Tx K mg) : (fn_first_under T).m = 1 := by unfold fn_first_under; rfl
theorem fno_first_under (T : Tx K mg) : (fn_first_under T).own = false := by unfold fn_first_under; rfl
@[irreducible] noncomputable def m_first_under (fixing : (List (Option Int))) : Rs (List Int) :=
  (lcM (β := Int) fixing (fun (fixed : (Option Int)) => (Rs.ok true)) (fun (fixed : (Option Int)) => (if fixed.isNone = true then (Rs.ok (0 : Int)) else (theO fixed))))
theorem r_first_under (T : Tx K mg) (fixing : (List (Option Int))) : Si ((fn_first_under T).f [.v ((eL (eO eI)).v fixing)]) (m_first_under fixing) (eL eI).v := by
  rw [fnf_first_under]
  exact si_runX (show SS (xs_first_under T) [.v ((eL (eO eI)).v fixing), .x] (m_first_under fixing) (PF false (eL eI).v) from by
    unfold xs_first_under m_first_under
    exact (ss_retM (sv_eE (sn_lc (E := eI) (F := (eO eI)) (si_list (sw_varv rfl)) rfl rfl (fun (fixed : (Option Int)) => ⟨[.v ((eL (eO eI)).v fixing), .v ((eO eI).v fixed)], rfl, st_yes, (sv_ifeP (st_test (sv_op (sx_p (sv_var rfl) (sx_p sv_nonU so_isN)))) sv_int (sv_theO (sv_var rfl)))⟩))) fun _ => rfl))
noncomputable def xs_closes (T : Tx K mg) : XS K := (.seq (.drop (.call (fn_need_fixing T) (fno_need_fixing T) (.cons false (.var 0) (.cons false (.var 1) .nil))))
    (.seq (.ite (.not (.B (.call (fn_are_fit T) (fno_are_fit T) (.cons false (.var 0) (.cons true (.var 2) .nil)))))
    (.ret (.bool false))
    XS.nx)
    (.seq (.set 5 (.call (fn_ceiling T) (fno_ceiling T) (.cons false (.call (fn_case_bound T) (fno_case_bound T) (.cons false (.var 0) (.cons false (.var 1) (.cons true (.var 2) .nil)))) .nil)))
    (.ret (.orV (.op O2.gt (.var 5) (.var 3)) (.andV (.op O2.eq (.var 5) (.var 3)) (.op O2.geD (.call (fn_first_under T) (fno_first_under T) (.cons false (.var 1) .nil)) (.var 4))))))))
@[irreducible] noncomputable def fn_closes (T : Tx K mg) : Fn := ⟨5, false, fun as => runX (xs_closes T) false 1 as⟩
theorem fnf_closes (T : Tx K mg) (as : List Av) : (fn_closes T).f as = runX (xs_closes T) false 1 as := by unfold fn_closes; rfl
theorem fnm_closes (T : Tx K mg) : (fn_closes T).m = 5 := by unfold fn_closes; rfl
theorem fno_closes (T : Tx K mg) : (fn_closes T).own = false := by unfold fn_closes; rfl
@[irreducible] noncomputable def m_closes (T : Tx K mg) (program : Ob_Program) (fixing : (List (Option Int))) (multipliers : (List (Int × Int))) (value : Int) (told : (List Int)) : Rs Bool :=
  ((m_need_fixing T program fixing).bind fun _ =>
  (((m_are_fit program multipliers).bind fun u_ => Rs.ok (!u_)).bind fun c => if c = true then
  (Rs.ok false)
  else (((m_case_bound T program fixing multipliers).bind fun u => m_ceiling u).bind fun least =>
  (if (decide (least > value)) = true then Rs.ok true else (if (decide (least = value)) = true then ((m_first_under fixing).bind fun u1 => Rs.ok (!(OrdE.lt (E := (eL eI)) u1 told))) else Rs.ok false)))))
theorem r_closes (T : Tx K mg) (program : Ob_Program) (fixing : (List (Option Int))) (multipliers : (List (Int × Int))) (value : Int) (told : (List Int)) : Si ((fn_closes T).f [.v ((vo_Program T) program), .v ((eL (eO eI)).v fixing), .l (List.map (eT2 eI eI).e multipliers), .v (eI.v value), .v ((eL eI).v told)]) (m_closes T program fixing multipliers value told) eB.v := by
  rw [fnf_closes]
  exact si_runX (show SS (xs_closes T) [.v ((vo_Program T) program), .v ((eL (eO eI)).v fixing), .bl (List.map (eT2 eI eI).e multipliers), .v (eI.v value), .v ((eL eI).v told), .x] (m_closes T program fixing multipliers value told) (PF false eB.v) from by
    unfold xs_closes m_closes
    exact (ss_drop (sv_call (sc_p (sv_var rfl) (sc_p (sv_var rfl) (sc_nil (si_fn (fnm_need_fixing T) (r_need_fixing T _ _))))))
  (ss_iteXI (st_notI (st_B (sv_call (sc_p (sv_var rfl) (sc_lp (sl_varb rfl) (sc_nil (si_fn (fnm_are_fit T) (r_are_fit T _ _))))))))
  (ss_ret sv_bool ⟨rfl, rfl⟩)
  (ss_nxS (ss_setI (st1 := fun least => [.v ((vo_Program T) program), .v ((eL (eO eI)).v fixing), .bl (List.map (eT2 eI eI).e multipliers), .v (eI.v value), .v ((eL eI).v told), .v (eI.v least)]) (sv_call (sc_i (sv_call (sc_p (sv_var rfl) (sc_p (sv_var rfl) (sc_lp (sl_varb rfl) (sc_nil (si_fn (fnm_case_bound T) (r_case_bound T _ _ _))))))) fun u => (sc_nil (si_fn (fnm_ceiling T) (r_ceiling T _))))) (fun _ => rfl) fun least =>
  (ss_retM (sv_orP (sv_op (sx_p (sv_var rfl) (sx_p (sv_var rfl) so_gt))) (sv_andP (sv_op (sx_p (sv_var rfl) (sx_p (sv_var rfl) so_eqI))) (sv_op (sx_i (sv_call (sc_p (sv_var rfl) (sc_nil (si_fn (fnm_first_under T) (r_first_under T _))))) fun u1 => (sx_p (sv_var rfl) (so_geD (E := (eL eI)))))))) fun _ => rfl))))))
noncomputable def xs_law_numbers (T : Tx K mg) : XS K := (.seq (.setN 2 (XN.op O2N.cat (XN.e (XN.lc (.list (XN.e (XN.slS (.var 0) .none (.some (.int 63))))) (.name 7) .yes (.bi Bi.abs (.cons false (.var 7) .nil)) [7])) (XN.e (XN.lst (.cons false (.int 0) .nil)))))
    (.seq (.ite (.test (.op O2.gt (.bi Bi.len (.cons false (.var 0) .nil)) (.int 0)))
    (.setN 2 (XN.sl (.var 2) .none (.some (.neg (.int 1)))))
    XS.nx)
    (.seq (.setN 3 (XN.lend 2 (XN.lc (.list (.var 2)) (.name 7) .yes (.op O2.mod (.bi Bi.int (.cons false (.op O2.add (.op O2.mul (.var 7) (.int 48271)) (.int 11)) .nil)) (.int 2147483647)) [7])))
    (.seq (.setN 4 (XN.lst .nil))
    (.seq (.for_ (.range1 (.cons false (.var 1) .nil)) (.name 5) (.post [5, 6] (.seq (.set 6 (.op O2.mod (.bi Bi.int (.cons false (.var 5) .nil)) (.bi Bi.len (.cons true (.var 2) .nil))))
    (.ite (.test (.op O2.ge (.op O2.ixL (.var 2) (.var 6)) (.op O2.pow (.int 10) (.int 18))))
    (.seq (.app 4 (.op O2.mod (.bi Bi.int (.cons false (.op O2.ixL (.var 2) (.var 6)) .nil)) (.int 65536)))
    (.seti 2 (.var 6) (.op O2.div (.op O2.ixL (.var 2) (.var 6)) (.int 65536))))
    (.seq (.seti 3 (.var 6) (.op O2.mod (.bi Bi.int (.cons false (.op O2.add (.op O2.add (.op O2.mul (.op O2.ixL (.var 3) (.var 6)) (.int 16807)) (.int 12345)) (.op O2.mul (.int 7919) (.var 5))) .nil)) (.int 2147483647)))
    (.app 4 (.op O2.mod (.bi Bi.int (.cons false (.op O2.add (.op O2.ixL (.var 2) (.var 6)) (.op O2.div (.op O2.ixL (.var 3) (.var 6)) (.int 5))) .nil)) (.int 65536))))))))
    (.frz 4 (.ret (.var 4))))))))
@[irreducible] noncomputable def fn_law_numbers (T : Tx K mg) : Fn := ⟨2, false, fun as => runX (xs_law_numbers T) false 6 as⟩
theorem fnf_law_numbers (T : Tx K mg) (as : List Av) : (fn_law_numbers T).f as = runX (xs_law_numbers T) false 6 as := by unfold fn_law_numbers; rfl
theorem fnm_law_numbers (T : Tx K mg) : (fn_law_numbers T).m = 2 := by unfold fn_law_numbers; rfl
theorem fno_law_numbers (T : Tx K mg) : (fn_law_numbers T).own = false := by unfold fn_law_numbers; rfl
@[irreducible] noncomputable def m_law_numbers (script : (List Int)) (many : Int) : Rs (List Int) :=
  (((lcM (β := Int) (cutT script none (some 63)) (fun (cell : Int) => (Rs.ok true)) (fun (cell : Int) => (Rs.ok (iabs cell)))).bind fun u => (catC u ([0] : List Int))).bind fun rest =>
  (((if (decide ((lenI script) > 0)) = true then
  ((Rs.ok (cutT rest none (some (-1)))).bind fun rest1 =>
  (Rs.ok rest1))
  else (Rs.ok rest))).bind fun (rest2 : (List Int)) =>
  ((qu (lcM (β := Int) rest2 (fun (cell1 : Int) => (Rs.ok true)) (fun (cell1 : Int) => (Rs.ok (((cell1 * 48271) + 11) % 2147483647))))).bind fun mixed =>
  ((Rs.ok ([] : List Int)).bind fun numbers =>
  ((rng1C many).bind fun xs_ => (forR (fun (k : Int) (s : (List Int) × (List Int) × (List Int)) =>
  (((modC k (lenI s.1))).bind fun at' =>
  ((((ixC s.1 at')).bind fun u1 => Rs.ok (decide (u1 ≥ 1000000000000000000))).bind fun c => if c = true then
  (((((ixC s.1 at')).bind fun u2 => Rs.ok u2).bind fun u3 => Rs.ok (u3 % 65536)).bind fun u_ => (pushC s.2.2 u_).bind fun numbers1 =>
  ((((ixC s.1 at')).bind fun u4 => Rs.ok (u4 / 65536)).bind fun u_ => (qu (Rs.ok at')).bind fun z_ => (setC s.1 z_ u_).bind fun rest3 =>
  (Rs.ok (rest3, s.2.1, numbers1))))
  else ((((((((ixC s.2.1 at')).bind fun u5 => Rs.ok (u5 * 16807)).bind fun u6 => Rs.ok (u6 + 12345)).bind fun u7 => Rs.ok (u7 + (7919 * k))).bind fun u8 => Rs.ok u8).bind fun u9 => Rs.ok (u9 % 2147483647)).bind fun u_ => (qu (Rs.ok at')).bind fun z_ => (setC s.2.1 z_ u_).bind fun mixed1 =>
  ((((((ixC s.1 at')).bind fun u11 => (((ixC mixed1 at')).bind fun u10 => Rs.ok (u10 / 5)).bind fun u12 => Rs.ok (u11 + u12)).bind fun u13 => Rs.ok u13).bind fun u14 => Rs.ok (u14 % 65536)).bind fun u_ => (pushC s.2.2 u_).bind fun numbers2 =>
  (Rs.ok (s.1, mixed1, numbers2))))))) xs_ (rest2, mixed, numbers)).bind fun (s : (List Int) × (List Int) × (List Int)) =>
  (Rs.ok s.2.2))))))
theorem r_law_numbers (T : Tx K mg) (script : (List Int)) (many : Int) : Si ((fn_law_numbers T).f [.v (Vl.s script), .v (eI.v many)]) (m_law_numbers script many) (eL eI).v := by
  rw [fnf_law_numbers]
  exact si_runX (show SS (xs_law_numbers T) [.v (Vl.s script), .v (eI.v many), .x, .x, .x, .x, .x, .x] (m_law_numbers script many) (PF false (eL eI).v) from by
    unfold xs_law_numbers m_law_numbers
    exact (ss_setNI (st1 := fun rest => [.v (Vl.s script), .v (eI.v many), .ol (List.map eI.e rest), .x, .x, .x, .x, .x]) (sn_op (sl_i (sl_ofE (sv_eE (sn_lc (E := eI) (F := eI) (si_list (sw_ofE (sv_eE (sn_slS (sv_var rfl) so_none (so_some sv_int))) rfl)) rfl rfl (fun (cell : Int) => ⟨[.v (Vl.s script), .v (eI.v many), .x, .x, .x, .x, .x, .v (eI.v cell)], rfl, st_yes, (sv_bi (sc_p (sv_var rfl) (sc_nil so_abs)))⟩))) rfl) fun u => (sl_p (sl_ofE (sv_eE (sn_lst (sc_p sv_int (sc_nil (si_lst (f := List.map eI.e) rfl rfl))))) rfl) so_cat))) (fun _ => rfl) rfl fun rest =>
  (ss_seq (es := fun (rest2 : (List Int)) => [.v (Vl.s script), .v (eI.v many), .ol (List.map eI.e rest2), .x, .x, .x, .x, .x]) (ss_ite (st_test (sv_op (sx_p (sv_bi (sc_p (sv_var rfl) (sc_nil so_lenS))) (sx_p sv_int so_gt))))
  (ss_last (ss_setNI (st1 := fun rest1 => [.v (Vl.s script), .v (eI.v many), .ol (List.map eI.e rest1), .x, .x, .x, .x, .x]) (sn_sl (sl_varo rfl) so_none (so_some (sv_neg sv_int))) (fun _ => rfl) rfl fun rest1 =>
  (ss_nx rfl)))
  (ss_nx rfl)) (fun _ => rfl) fun rest2 =>
  (ss_setNI (st1 := fun mixed => [.v (Vl.s script), .v (eI.v many), .ol (List.map eI.e rest2), .ol (List.map eI.e mixed), .x, .x, .x, .x]) (sn_lend rfl (sn_lc (E := eI) (F := eI) (si_list (sw_varb rfl)) rfl rfl (fun (cell1 : Int) => ⟨[.v (Vl.s script), .v (eI.v many), .bl (List.map eI.e rest2), .x, .x, .x, .x, .v (eI.v cell1)], rfl, st_yes, (sv_op (sx_p (sv_bi (sc_p (sv_op (sx_p (sv_op (sx_p (sv_var rfl) (sx_p sv_int (so_mulp (mul_litr (by decide)))))) (sx_p sv_int so_add))) (sc_nil so_int))) (sx_p sv_int (so_modp (by decide)))))⟩))) (fun _ => rfl) rfl fun mixed =>
  (ss_setNI (st1 := fun numbers => [.v (Vl.s script), .v (eI.v many), .ol (List.map eI.e rest2), .ol (List.map eI.e mixed), .ol (List.map eI.e numbers), .x, .x, .x]) (sn_lst (sc_nil (si_lst (f := List.map eI.e) rfl rfl))) (fun _ => rfl) rfl fun numbers =>
  (ss_forRI (F := eI.e) (es := fun (s : (List Int) × (List Int) × (List Int)) => [.v (Vl.s script), .v (eI.v many), .ol (List.map eI.e s.1), .ol (List.map eI.e s.2.1), .ol (List.map eI.e s.2.2), .x, .x, .x]) (s0 := (rest2, mixed, numbers)) (si_range1 (sc_p (sv_var rfl) (sc_nil so_rng1))) rfl (fun _ => rfl)
  (fun (k : Int) (s : (List Int) × (List Int) × (List Int)) => ⟨[.v (Vl.s script), .v (eI.v many), .ol (List.map eI.e s.1), .ol (List.map eI.e s.2.1), .ol (List.map eI.e s.2.2), .v (eI.v k), .x, .x], rfl, rfl,
  (ss_post (ss_setI (st1 := fun at' => [.v (Vl.s script), .v (eI.v many), .ol (List.map eI.e s.1), .ol (List.map eI.e s.2.1), .ol (List.map eI.e s.2.2), .v (eI.v k), .v (eI.v at'), .x]) (sv_op (sx_p (sv_bi (sc_p (sv_var rfl) (sc_nil so_int))) (sx_p (sv_bi (sc_lp (sl_varo rfl) (sc_nil so_len))) so_mod))) (fun _ => rfl) fun at' =>
  (ss_iteI (st_test (sv_op (sx_i (sv_op (sl_p (sl_varo rfl) (sx_p (sv_var rfl) so_ixL))) fun u1 => (sx_p (sv_op (sx_p sv_int (sx_p sv_int (so_powp (by decide))))) so_ge))))
  (ss_appI (E := eI) (st1 := fun numbers1 => [.v (Vl.s script), .v (eI.v many), .ol (List.map eI.e s.1), .ol (List.map eI.e s.2.1), .ol (List.map eI.e numbers1), .v (eI.v k), .v (eI.v at'), .x]) rfl (sv_op (sx_i (sv_bi (sc_i (sv_op (sl_p (sl_varo rfl) (sx_p (sv_var rfl) so_ixL))) fun u2 => (sc_nil so_int))) fun u3 => (sx_p sv_int (so_modp (by decide))))) (fun _ => rfl) fun numbers1 =>
  (ss_last (ss_setiI (E := eI) (st1 := fun rest3 => [.v (Vl.s script), .v (eI.v many), .ol (List.map eI.e rest3), .ol (List.map eI.e s.2.1), .ol (List.map eI.e numbers1), .v (eI.v k), .v (eI.v at'), .x]) rfl (sv_op (sx_i (sv_op (sl_p (sl_varo rfl) (sx_p (sv_var rfl) so_ixL))) fun u4 => (sx_p sv_int (so_divp (div_lit ⟨by decide, by decide⟩))))) (sv_var rfl) (fun _ => rfl) fun rest3 =>
  (ss_nx (.inl rfl)))))
  (ss_setiI (E := eI) (st1 := fun mixed1 => [.v (Vl.s script), .v (eI.v many), .ol (List.map eI.e s.1), .ol (List.map eI.e mixed1), .ol (List.map eI.e s.2.2), .v (eI.v k), .v (eI.v at'), .x]) rfl (sv_op (sx_i (sv_bi (sc_i (sv_op (sx_i (sv_op (sx_i (sv_op (sx_i (sv_op (sl_p (sl_varo rfl) (sx_p (sv_var rfl) so_ixL))) fun u5 => (sx_p sv_int (so_mulp (mul_litr (by decide)))))) fun u6 => (sx_p sv_int so_add))) fun u7 => (sx_p (sv_op (sx_p sv_int (sx_p (sv_var rfl) (so_mulp (mul_litl (by decide)))))) so_add))) fun u8 => (sc_nil so_int))) fun u9 => (sx_p sv_int (so_modp (by decide))))) (sv_var rfl) (fun _ => rfl) fun mixed1 =>
  (ss_last (ss_appI (E := eI) (st1 := fun numbers2 => [.v (Vl.s script), .v (eI.v many), .ol (List.map eI.e s.1), .ol (List.map eI.e mixed1), .ol (List.map eI.e numbers2), .v (eI.v k), .v (eI.v at'), .x]) rfl (sv_op (sx_i (sv_bi (sc_i (sv_op (sx_i (sv_op (sl_p (sl_varo rfl) (sx_p (sv_var rfl) so_ixL))) fun u11 => (sx_i (sv_op (sx_i (sv_op (sl_p (sl_varo rfl) (sx_p (sv_var rfl) so_ixL))) fun u10 => (sx_p sv_int (so_divp (div_lit ⟨by decide, by decide⟩))))) fun u12 => so_add))) fun u13 => (sc_nil so_int))) fun u14 => (sx_p sv_int (so_modp (by decide))))) (fun _ => rfl) fun numbers2 =>
  (ss_nx (.inl rfl))))))))⟩) fun (s : (List Int) × (List Int) × (List Int)) =>
  (ss_frz (st1 := [.v (Vl.s script), .v (eI.v many), .ol (List.map eI.e s.1), .ol (List.map eI.e s.2.1), .v ((eL eI).v s.2.2), .x, .x, .x]) rfl rfl (ss_ret (sv_var rfl) rfl))))))))
noncomputable def xs_law_lowest (T : Tx K mg) : XS K := (.seq (.ite (.test (.op O2.lt (.var 1) (.int 0)))
    (.par 0 1 (.cons false (.neg (.var 0)) (.cons false (.neg (.var 1)) .nil)))
    XS.nx)
    (.seq (.par 2 3 (.cons false (.bi Bi.abs (.cons false (.var 0) .nil)) (.cons false (.var 1) .nil)))
    (.seq (.for_ (.range1 (.cons false (.int 4000) .nil)) (.name 4) (.post [4] (.seq (.ite (.test (.op O2.eq (.var 3) (.int 0)))
    .brk
    XS.nx)
    (.par 2 3 (.cons false (.var 3) (.cons false (.op O2.mod (.bi Bi.int (.cons false (.var 2) .nil)) (.var 3)) .nil))))))
    (.ret (.tup (.cons false (.op O2.div (.var 0) (.var 2)) (.cons false (.op O2.div (.var 1) (.var 2)) .nil)))))))
@[irreducible] noncomputable def fn_law_lowest (T : Tx K mg) : Fn := ⟨2, false, fun as => runX (xs_law_lowest T) false 3 as⟩
theorem fnf_law_lowest (T : Tx K mg) (as : List Av) : (fn_law_lowest T).f as = runX (xs_law_lowest T) false 3 as := by unfold fn_law_lowest; rfl
theorem fnm_law_lowest (T : Tx K mg) : (fn_law_lowest T).m = 2 := by unfold fn_law_lowest; rfl
theorem fno_law_lowest (T : Tx K mg) : (fn_law_lowest T).own = false := by unfold fn_law_lowest; rfl
@[irreducible] noncomputable def m_law_lowest (p : Int) (q : Int) : Rs (Int × Int) :=
  (((if (decide (q < 0)) = true then
  (Rs.ok ((-p), (-q)))
  else (Rs.ok (p, q)))).bind fun (s : Int × Int) =>
  (bindJ (forJ (fun (turn : Int) (s1 : Int × Int) =>
  (if (decide (s1.2 = 0)) = true then
  (Rs.ok (LO.bk (s1.1, s1.2)))
  else (((modC s1.1 s1.2)).bind fun two =>
  (Rs.ok (LO.nx (s1.2, two)))))) (rngL 0 4000) ((iabs s.1), s.2)) fun (s1 : Int × Int) =>
  (((divC s.1 s1.1)).bind fun u => ((divC s.2 s1.1)).bind fun u1 => .ok (u, u1))))
theorem r_law_lowest (T : Tx K mg) (p : Int) (q : Int) : Si ((fn_law_lowest T).f [.v (eI.v p), .v (eI.v q)]) (m_law_lowest p q) (eT2 eI eI).v := by
  rw [fnf_law_lowest]
  exact si_runX (show SS (xs_law_lowest T) [.v (eI.v p), .v (eI.v q), .x, .x, .x] (m_law_lowest p q) (PF false (eT2 eI eI).v) from by
    unfold xs_law_lowest m_law_lowest
    exact (ss_seq (es := fun (s : Int × Int) => [.v (eI.v s.1), .v (eI.v s.2), .x, .x, .x]) (ss_ite (st_test (sv_op (sx_p (sv_var rfl) (sx_p sv_int so_lt))))
  (ss_last (ss_parpp (st1 := [.v (eI.v (-p)), .v (eI.v (-q)), .x, .x, .x]) (sv_neg (sv_var rfl)) (sv_neg (sv_var rfl)) rfl
  (ss_nx rfl)))
  (ss_nx rfl)) (fun _ => rfl) fun s =>
  (ss_parpp (st1 := [.v (eI.v s.1), .v (eI.v s.2), .v (eI.v (iabs s.1)), .v (eI.v s.2), .x]) (sv_bi (sc_p (sv_var rfl) (sc_nil so_abs))) (sv_var rfl) rfl
  (ss_forJ (F := eI.e) (es := fun (s1 : Int × Int) => [.v (eI.v s.1), .v (eI.v s.2), .v (eI.v s1.1), .v (eI.v s1.2), .x]) (s0 := ((iabs s.1), s.2)) (si_range1 (sc_p sv_int (sc_nil (so_rng1p (by decide))))) rfl (fun _ => rfl)
  (fun (turn : Int) (s1 : Int × Int) => ⟨[.v (eI.v s.1), .v (eI.v s.2), .v (eI.v s1.1), .v (eI.v s1.2), .v (eI.v turn)], rfl, rfl,
  (ss_post (ss_iteX (st_test (sv_op (sx_p (sv_var rfl) (sx_p sv_int so_eqI))))
  (ss_brk ⟨rfl, rfl⟩)
  (ss_nxS (ss_last (ss_parpi (st1 := fun two => [.v (eI.v s.1), .v (eI.v s.2), .v (eI.v s1.2), .v (eI.v two), .v (eI.v turn)]) (sv_var rfl) (sv_op (sx_p (sv_bi (sc_p (sv_var rfl) (sc_nil so_int))) (sx_p (sv_var rfl) so_mod))) (fun _ => rfl) fun two =>
  (ss_nx (.inl rfl)))))))⟩) fun (s1 : Int × Int) =>
  (ss_retM (sv_tup (sc_i (sv_op (sx_p (sv_var rfl) (sx_p (sv_var rfl) so_div))) fun u => (sc_i (sv_op (sx_p (sv_var rfl) (sx_p (sv_var rfl) so_div))) fun u1 => (sc_nil (si_tup (e := (eT2 eI eI).v) rfl rfl))))) fun _ => rfl)))))
noncomputable def xs_law_plus (T : Tx K mg) : XS K := (.ret (.call (fn_law_lowest T) (fno_law_lowest T) (.cons false (.op O2.add (.op O2.mul (.op O2.ixT (.var 0) (.int 0)) (.op O2.ixT (.var 1) (.int 1))) (.op O2.mul (.op O2.ixT (.var 1) (.int 0)) (.op O2.ixT (.var 0) (.int 1)))) (.cons false (.op O2.mul (.op O2.ixT (.var 0) (.int 1)) (.op O2.ixT (.var 1) (.int 1))) .nil))))
@[irreducible] noncomputable def fn_law_plus (T : Tx K mg) : Fn := ⟨2, false, fun as => runX (xs_law_plus T) false 0 as⟩
theorem fnf_law_plus (T : Tx K mg) (as : List Av) : (fn_law_plus T).f as = runX (xs_law_plus T) false 0 as := by unfold fn_law_plus; rfl
theorem fnm_law_plus (T : Tx K mg) : (fn_law_plus T).m = 2 := by unfold fn_law_plus; rfl
theorem fno_law_plus (T : Tx K mg) : (fn_law_plus T).own = false := by unfold fn_law_plus; rfl
@[irreducible] noncomputable def m_law_plus (first : (Int × Int)) (second : (Int × Int)) : Rs (Int × Int) :=
  ((((mulC first.1 second.2)).bind fun u => ((mulC second.1 first.2)).bind fun u1 => Rs.ok (u + u1)).bind fun u2 => ((mulC first.2 second.2)).bind fun u3 => m_law_lowest u2 u3)
theorem r_law_plus (T : Tx K mg) (first : (Int × Int)) (second : (Int × Int)) : Si ((fn_law_plus T).f [.v ((eT2 eI eI).v first), .v ((eT2 eI eI).v second)]) (m_law_plus first second) (eT2 eI eI).v := by
  rw [fnf_law_plus]
  exact si_runX (show SS (xs_law_plus T) [.v ((eT2 eI eI).v first), .v ((eT2 eI eI).v second)] (m_law_plus first second) (PF false (eT2 eI eI).v) from by
    unfold xs_law_plus m_law_plus
    exact (ss_retM (sv_call (sc_i (sv_op (sx_i (sv_op (sx_p (sv_op (sx_p (sv_var rfl) (sx_p sv_int (so_ixT (E := eI) rfl)))) (sx_p (sv_op (sx_p (sv_var rfl) (sx_p sv_int (so_ixT (E := eI) rfl)))) so_mul))) fun u => (sx_i (sv_op (sx_p (sv_op (sx_p (sv_var rfl) (sx_p sv_int (so_ixT (E := eI) rfl)))) (sx_p (sv_op (sx_p (sv_var rfl) (sx_p sv_int (so_ixT (E := eI) rfl)))) so_mul))) fun u1 => so_add))) fun u2 => (sc_i (sv_op (sx_p (sv_op (sx_p (sv_var rfl) (sx_p sv_int (so_ixT (E := eI) rfl)))) (sx_p (sv_op (sx_p (sv_var rfl) (sx_p sv_int (so_ixT (E := eI) rfl)))) so_mul))) fun u3 => (sc_nil (si_fn (fnm_law_lowest T) (r_law_lowest T _ _)))))) fun _ => rfl))
noncomputable def xs_law_added (T : Tx K mg) : XS K := (.seq (.set 1 (.tup (.cons false (.int 0) (.cons false (.int 1) .nil))))
    (.seq (.for_ (.list (.var 0)) (.name 2) (.post [2] (.set 1 (.call (fn_law_plus T) (fno_law_plus T) (.cons false (.var 1) (.cons false (.var 2) .nil))))))
    (.ret (.var 1))))
@[irreducible] noncomputable def fn_law_added (T : Tx K mg) : Fn := ⟨1, false, fun as => runX (xs_law_added T) false 2 as⟩
theorem fnf_law_added (T : Tx K mg) (as : List Av) : (fn_law_added T).f as = runX (xs_law_added T) false 2 as := by unfold fn_law_added; rfl
theorem fnm_law_added (T : Tx K mg) : (fn_law_added T).m = 1 := by unfold fn_law_added; rfl
theorem fno_law_added (T : Tx K mg) : (fn_law_added T).own = false := by unfold fn_law_added; rfl
@[irreducible] noncomputable def m_law_added (rows : (List (Int × Int))) : Rs (Int × Int) :=
  ((Rs.ok (0, 1)).bind fun total =>
  ((forR (fun (one : (Int × Int)) (total1 : (Int × Int)) =>
  ((m_law_plus total1 one).bind fun total2 =>
  (Rs.ok total2))) rows total).bind fun (total1 : (Int × Int)) =>
  (Rs.ok total1)))
theorem r_law_added (T : Tx K mg) (rows : (List (Int × Int))) : Si ((fn_law_added T).f [.v ((eL (eT2 eI eI)).v rows)]) (m_law_added rows) (eT2 eI eI).v := by
  rw [fnf_law_added]
  exact si_runX (show SS (xs_law_added T) [.v ((eL (eT2 eI eI)).v rows), .x, .x] (m_law_added rows) (PF false (eT2 eI eI).v) from by
    unfold xs_law_added m_law_added
    exact (ss_setI (st1 := fun total => [.v ((eL (eT2 eI eI)).v rows), .v ((eT2 eI eI).v total), .x]) (sv_tup (sc_p sv_int (sc_p sv_int (sc_nil (si_tup (e := (eT2 eI eI).v) rfl rfl))))) (fun _ => rfl) fun total =>
  (ss_forR (F := (eT2 eI eI).e) (es := fun (total1 : (Int × Int)) => [.v ((eL (eT2 eI eI)).v rows), .v ((eT2 eI eI).v total1), .x]) (s0 := total) (si_list (sw_varv rfl)) rfl (fun _ => rfl)
  (fun (one : (Int × Int)) (total1 : (Int × Int)) => ⟨[.v ((eL (eT2 eI eI)).v rows), .v ((eT2 eI eI).v total1), .v ((eT2 eI eI).v one)], rfl, rfl,
  (ss_post (ss_last (ss_setI (st1 := fun total2 => [.v ((eL (eT2 eI eI)).v rows), .v ((eT2 eI eI).v total2), .v ((eT2 eI eI).v one)]) (sv_call (sc_p (sv_var rfl) (sc_p (sv_var rfl) (sc_nil (si_fn (fnm_law_plus T) (r_law_plus T _ _)))))) (fun _ => rfl) fun total2 =>
  (ss_nx (.inl rfl)))))⟩) fun (total1 : (Int × Int)) =>
  (ss_ret (sv_var rfl) rfl))))
noncomputable def xs_law_weighted (T : Tx K mg) : XS K := (.ret (.call (fn_law_added T) (fno_law_added T) (.cons false (XN.e (XN.lc (.range1 (.cons false (.bi Bi.len (.cons true (.var 0) .nil)) .nil)) (.name 2) .yes (.call (fn_law_lowest T) (fno_law_lowest T) (.cons false (.op O2.mul (.op O2.ixL (.var 0) (.var 2)) (.op O2.ixT (.op O2.ixL (.var 1) (.var 2)) (.int 0))) (.cons false (.op O2.ixT (.op O2.ixL (.var 1) (.var 2)) (.int 1)) .nil))) [2])) .nil)))
@[irreducible] noncomputable def fn_law_weighted (T : Tx K mg) : Fn := ⟨2, false, fun as => runX (xs_law_weighted T) false 1 as⟩
theorem fnf_law_weighted (T : Tx K mg) (as : List Av) : (fn_law_weighted T).f as = runX (xs_law_weighted T) false 1 as := by unfold fn_law_weighted; rfl
theorem fnm_law_weighted (T : Tx K mg) : (fn_law_weighted T).m = 2 := by unfold fn_law_weighted; rfl
theorem fno_law_weighted (T : Tx K mg) : (fn_law_weighted T).own = false := by unfold fn_law_weighted; rfl
@[irreducible] noncomputable def m_law_weighted (numbers : (List Int)) (values : (List (Int × Int))) : Rs (Int × Int) :=
  (((rng1C (lenI numbers)).bind fun xs_ => lcM (β := (Int × Int)) xs_ (fun (k : Int) => (Rs.ok true)) (fun (k : Int) => ((((ixC numbers k)).bind fun u1 => (((ixC values k)).bind fun u => Rs.ok u.1).bind fun u2 => (mulC u1 u2)).bind fun u4 => (((ixC values k)).bind fun u3 => Rs.ok u3.2).bind fun u5 => m_law_lowest u4 u5))).bind fun u6 => m_law_added u6)
theorem r_law_weighted (T : Tx K mg) (numbers : (List Int)) (values : (List (Int × Int))) : Si ((fn_law_weighted T).f [.v ((eL eI).v numbers), .l (List.map (eT2 eI eI).e values)]) (m_law_weighted numbers values) (eT2 eI eI).v := by
  rw [fnf_law_weighted]
  exact si_runX (show SS (xs_law_weighted T) [.v ((eL eI).v numbers), .bl (List.map (eT2 eI eI).e values), .x] (m_law_weighted numbers values) (PF false (eT2 eI eI).v) from by
    unfold xs_law_weighted m_law_weighted
    exact (ss_retM (sv_call (sc_i (sv_eE (sn_lcI (E := (eT2 eI eI)) (F := eI) (si_range1 (sc_p (sv_bi (sc_lp (sl_varv rfl) (sc_nil so_len))) (sc_nil so_rng1))) rfl rfl (fun (k : Int) => ⟨[.v ((eL eI).v numbers), .bl (List.map (eT2 eI eI).e values), .v (eI.v k)], rfl, st_yes, (sv_call (sc_i (sv_op (sx_i (sv_op (sl_p (sl_varv rfl) (sx_p (sv_var rfl) so_ixL))) fun u1 => (sx_i (sv_op (sx_i (sv_op (sl_p (sl_varb rfl) (sx_p (sv_var rfl) so_ixL))) fun u => (sx_p sv_int (so_ixT (E := eI) rfl)))) fun u2 => so_mul))) fun u4 => (sc_i (sv_op (sx_i (sv_op (sl_p (sl_varb rfl) (sx_p (sv_var rfl) so_ixL))) fun u3 => (sx_p sv_int (so_ixT (E := eI) rfl)))) fun u5 => (sc_nil (si_fn (fnm_law_lowest T) (r_law_lowest T _ _))))))⟩))) fun u6 => (sc_nil (si_fn (fnm_law_added T) (r_law_added T _))))) fun _ => rfl))
noncomputable def xs_law_program (T : Tx K mg) : XS K := (.seq (.set 4 (.op O2.add (.int 1) (.op O2.mod (.bi Bi.int (.cons false (.op O2.ixL (.var 0) (.var 1)) .nil)) (.var 2))))
    (.seq (.set 5 (.op O2.add (.int 1) (.op O2.mod (.bi Bi.int (.cons false (.op O2.ixL (.var 0) (.op O2.add (.var 1) (.int 1))) .nil)) (.int 5))))
    (.seq (.set 6 (XN.e (XN.lc (.range1 (.cons false (.var 4) .nil)) (.name 13) .yes (.op O2.sub (.op O2.mod (.bi Bi.int (.cons false (.op O2.ixL (.var 0) (.op O2.add (.op O2.add (.var 1) (.int 2)) (.var 13))) .nil)) (.op O2.add (.op O2.mul (.int 2) (.var 5)) (.int 3))) (.op O2.ixL (XN.e (XN.lst (.cons false (.int 0) (.cons false (.int 1) (.cons false (.op O2.add (.var 5) (.int 1)) .nil))))) (.op O2.mod (.op O2.div (.bi Bi.int (.cons false (.op O2.ixL (.var 0) (.op O2.add (.var 1) (.int 1))) .nil)) (.int 5)) (.int 3)))) [13])))
    (.seq (.setN 7 (XN.lst .nil))
    (.seq (.for_ (.range1 (.cons false (.op O2.mod (.bi Bi.int (.cons false (.op O2.ixL (.var 0) (.op O2.add (.var 1) (.int 20))) .nil)) (.op O2.add (.var 3) (.int 1))) .nil)) (.name 8) (.post [8, 9, 10, 11, 12] (.seq (.set 9 (.bi Bi.int (.cons false (.op O2.ixL (.var 0) (.op O2.add (.op O2.add (.var 1) (.int 21)) (.var 8))) .nil)))
    (.seq (.set 10 (XN.e (XN.lc (.range1 (.cons false (.var 4) .nil)) (.name 13) .yes (.op O2.sub (.op O2.mod (.bi Bi.int (.cons false (.op O2.add (.op O2.ixL (.var 0) (.op O2.add (.op O2.add (.var 1) (.int 32)) (.op O2.mod (.bi Bi.int (.cons false (.op O2.add (.op O2.mul (.var 8) (.var 4)) (.var 13)) .nil)) (.int 50)))) (.op O2.mul (.int 13) (.var 8))) .nil)) (.op O2.add (.var 5) (.int 2))) (.op O2.mul (.op O2.mod (.var 9) (.int 2)) (.op O2.add (.int 1) (.op O2.div (.var 5) (.int 2))))) [13])))
    (.seq (.set 11 (.op O2.ixL (XN.e (XN.lst (.cons false (.str (PySem.Str.ofString "least")) (.cons false (.str (PySem.Str.ofString "most")) (.cons false (.str (PySem.Str.ofString "least")) (.cons false (.str (PySem.Str.ofString "least")) (.cons false (.str (PySem.Str.ofString "most")) (.cons false (.str (PySem.Str.ofString "equal")) .nil)))))))) (.op O2.mod (.op O2.div (.var 9) (.int 2)) (.int 6))))
    (.seq (.set 12 (.bi Bi.sum (.cons true (XN.e (XN.lc (.range1 (.cons false (.var 4) .nil)) (.name 13) .yes (.op O2.mul (.op O2.ixL (.var 10) (.var 13)) (.op O2.mod (.op O2.div (.bi Bi.int (.cons false (.op O2.ixL (.var 0) (.op O2.add (.op O2.add (.var 1) (.int 2)) (.var 13))) .nil)) (.int 16)) (.int 2))) [13])) .nil)))
    (.app 7 (.tup (.cons false (.var 10) (.cons false (.var 11) (.cons false (.op O2.add (.var 12) (.op O2.ixL (XN.e (XN.lst (.cons false (.int 0) (.cons false (.int 0) (.cons false (.int 1) (.cons false (.neg (.int 1)) (.cons false (.int 2) .nil))))))) (.op O2.mod (.op O2.div (.var 9) (.int 12)) (.int 5)))) .nil)))))))))))
    (.frz 7 (.ret (.tup (.cons false (.var 4) (.cons false (.var 6) (.cons false (.var 7) .nil)))))))))))
@[irreducible] noncomputable def fn_law_program (T : Tx K mg) : Fn := ⟨4, false, fun as => runX (xs_law_program T) false 10 as⟩
theorem fnf_law_program (T : Tx K mg) (as : List Av) : (fn_law_program T).f as = runX (xs_law_program T) false 10 as := by unfold fn_law_program; rfl
theorem fnm_law_program (T : Tx K mg) : (fn_law_program T).m = 4 := by unfold fn_law_program; rfl
theorem fno_law_program (T : Tx K mg) : (fn_law_program T).own = false := by unfold fn_law_program; rfl
@[irreducible] noncomputable def m_law_program (numbers : (List Int)) (at' : Int) (most : Int) (count : Int) : Rs (Int × (List Int) × (List ((List Int) × Str × Int))) :=
  ((((((ixC numbers at')).bind fun u => Rs.ok u).bind fun u1 => (modC u1 most)).bind fun u2 => Rs.ok (1 + u2)).bind fun many =>
  ((((((ixC numbers (at' + 1))).bind fun u3 => Rs.ok u3).bind fun u4 => Rs.ok (u4 % 5)).bind fun u5 => Rs.ok (1 + u5)).bind fun wide =>
  (((rng1C many).bind fun xs_ => lcM (β := Int) xs_ (fun (j : Int) => (Rs.ok true)) (fun (j : Int) => (((((ixC numbers ((at' + 2) + j))).bind fun u6 => Rs.ok u6).bind fun u7 => (modC u7 ((2 * wide) + 3))).bind fun u12 => ((((((ixC numbers (at' + 1))).bind fun u8 => Rs.ok u8).bind fun u9 => Rs.ok (u9 / 5)).bind fun u10 => Rs.ok (u10 % 3)).bind fun u11 => (ixC ([0, 1, (wide + 1)] : List Int) u11)).bind fun u13 => Rs.ok (u12 - u13)))).bind fun prices =>
  ((Rs.ok ([] : List ((List Int) × Str × Int))).bind fun rows =>
  ((((((ixC numbers (at' + 20))).bind fun u14 => Rs.ok u14).bind fun u15 => (modC u15 (count + 1))).bind fun u16 => rng1C u16).bind fun xs_ => (forR (fun (k : Int) (rows1 : (List ((List Int) × Str × Int))) =>
  ((((ixC numbers ((at' + 21) + k))).bind fun u17 => Rs.ok u17).bind fun drawn =>
  (((rng1C many).bind fun xs_ => lcM (β := Int) xs_ (fun (j1 : Int) => (Rs.ok true)) (fun (j1 : Int) => (((((((((((mulC k many)).bind fun u18 => Rs.ok (u18 + j1)).bind fun u19 => Rs.ok u19).bind fun u20 => Rs.ok (u20 % 50)).bind fun u21 => Rs.ok ((at' + 32) + u21)).bind fun u22 => (ixC numbers u22)).bind fun u23 => Rs.ok (u23 + (13 * k))).bind fun u24 => Rs.ok u24).bind fun u25 => (modC u25 (wide + 2))).bind fun u26 => ((mulC (drawn % 2) (1 + (wide / 2)))).bind fun u27 => Rs.ok (u26 - u27)))).bind fun line =>
  (((ixC ([(PySem.Str.ofString "least"), (PySem.Str.ofString "most"), (PySem.Str.ofString "least"), (PySem.Str.ofString "least"), (PySem.Str.ofString "most"), (PySem.Str.ofString "equal")] : List Str) ((drawn / 2) % 6))).bind fun relation =>
  ((((rng1C many).bind fun xs_ => lcM (β := Int) xs_ (fun (j2 : Int) => (Rs.ok true)) (fun (j2 : Int) => (((ixC line j2)).bind fun u31 => (((((ixC numbers ((at' + 2) + j2))).bind fun u28 => Rs.ok u28).bind fun u29 => Rs.ok (u29 / 16)).bind fun u30 => Rs.ok (u30 % 2)).bind fun u32 => (mulC u31 u32)))).bind fun u33 => Rs.ok u33.sum).bind fun total =>
  (((((ixC ([0, 0, 1, (-1), 2] : List Int) ((drawn / 12) % 5))).bind fun u34 => Rs.ok (total + u34)).bind fun u35 => .ok (line, relation, u35)).bind fun u_ => (pushC rows1 u_).bind fun rows2 =>
  (Rs.ok rows2))))))) xs_ rows).bind fun (rows1 : (List ((List Int) × Str × Int))) =>
  (Rs.ok (many, prices, rows1)))))))
theorem r_law_program (T : Tx K mg) (numbers : (List Int)) (at' : Int) (most : Int) (count : Int) : Si ((fn_law_program T).f [.v ((eL eI).v numbers), .v (eI.v at'), .v (eI.v most), .v (eI.v count)]) (m_law_program numbers at' most count) (eT3 eI (eL eI) (eL (eT3 (eL eI) eS eI))).v := by
  rw [fnf_law_program]
  exact si_runX (show SS (xs_law_program T) [.v ((eL eI).v numbers), .v (eI.v at'), .v (eI.v most), .v (eI.v count), .x, .x, .x, .x, .x, .x, .x, .x, .x, .x] (m_law_program numbers at' most count) (PF false (eT3 eI (eL eI) (eL (eT3 (eL eI) eS eI))).v) from by
    unfold xs_law_program m_law_program
    exact (ss_setI (st1 := fun many => [.v ((eL eI).v numbers), .v (eI.v at'), .v (eI.v most), .v (eI.v count), .v (eI.v many), .x, .x, .x, .x, .x, .x, .x, .x, .x]) (sv_op (sx_p sv_int (sx_i (sv_op (sx_i (sv_bi (sc_i (sv_op (sl_p (sl_varv rfl) (sx_p (sv_var rfl) so_ixL))) fun u => (sc_nil so_int))) fun u1 => (sx_p (sv_var rfl) so_mod))) fun u2 => so_add))) (fun _ => rfl) fun many =>
  (ss_setI (st1 := fun wide => [.v ((eL eI).v numbers), .v (eI.v at'), .v (eI.v most), .v (eI.v count), .v (eI.v many), .v (eI.v wide), .x, .x, .x, .x, .x, .x, .x, .x]) (sv_op (sx_p sv_int (sx_i (sv_op (sx_i (sv_bi (sc_i (sv_op (sl_p (sl_varv rfl) (sx_p (sv_op (sx_p (sv_var rfl) (sx_p sv_int so_add))) so_ixL))) fun u3 => (sc_nil so_int))) fun u4 => (sx_p sv_int (so_modp (by decide))))) fun u5 => so_add))) (fun _ => rfl) fun wide =>
  (ss_setI (st1 := fun prices => [.v ((eL eI).v numbers), .v (eI.v at'), .v (eI.v most), .v (eI.v count), .v (eI.v many), .v (eI.v wide), .v ((eL eI).v prices), .x, .x, .x, .x, .x, .x, .x]) (sv_eE (sn_lcI (E := eI) (F := eI) (si_range1 (sc_p (sv_var rfl) (sc_nil so_rng1))) rfl rfl (fun (j : Int) => ⟨[.v ((eL eI).v numbers), .v (eI.v at'), .v (eI.v most), .v (eI.v count), .v (eI.v many), .v (eI.v wide), .x, .x, .x, .x, .x, .x, .x, .v (eI.v j)], rfl, st_yes, (sv_op (sx_i (sv_op (sx_i (sv_bi (sc_i (sv_op (sl_p (sl_varv rfl) (sx_p (sv_op (sx_p (sv_op (sx_p (sv_var rfl) (sx_p sv_int so_add))) (sx_p (sv_var rfl) so_add))) so_ixL))) fun u6 => (sc_nil so_int))) fun u7 => (sx_p (sv_op (sx_p (sv_op (sx_p sv_int (sx_p (sv_var rfl) (so_mulp (mul_litl (by decide)))))) (sx_p sv_int so_add))) so_mod))) fun u12 => (sx_i (sv_op (sl_p (sl_ofE (sv_eE (sn_lst (sc_p sv_int (sc_p sv_int (sc_p (sv_op (sx_p (sv_var rfl) (sx_p sv_int so_add))) (sc_nil (si_lst (f := List.map eI.e) rfl rfl))))))) rfl) (sx_i (sv_op (sx_i (sv_op (sx_i (sv_bi (sc_i (sv_op (sl_p (sl_varv rfl) (sx_p (sv_op (sx_p (sv_var rfl) (sx_p sv_int so_add))) so_ixL))) fun u8 => (sc_nil so_int))) fun u9 => (sx_p sv_int (so_divp (div_lit ⟨by decide, by decide⟩))))) fun u10 => (sx_p sv_int (so_modp (by decide))))) fun u11 => so_ixL))) fun u13 => so_sub)))⟩))) (fun _ => rfl) fun prices =>
  (ss_setNI (st1 := fun rows => [.v ((eL eI).v numbers), .v (eI.v at'), .v (eI.v most), .v (eI.v count), .v (eI.v many), .v (eI.v wide), .v ((eL eI).v prices), .ol (List.map (eT3 (eL eI) eS eI).e rows), .x, .x, .x, .x, .x, .x]) (sn_lst (sc_nil (si_lst (f := List.map (eT3 (eL eI) eS eI).e) rfl rfl))) (fun _ => rfl) rfl fun rows =>
  (ss_forRI (F := eI.e) (es := fun (rows1 : (List ((List Int) × Str × Int))) => [.v ((eL eI).v numbers), .v (eI.v at'), .v (eI.v most), .v (eI.v count), .v (eI.v many), .v (eI.v wide), .v ((eL eI).v prices), .ol (List.map (eT3 (eL eI) eS eI).e rows1), .x, .x, .x, .x, .x, .x]) (s0 := rows) (si_range1 (sc_i (sv_op (sx_i (sv_bi (sc_i (sv_op (sl_p (sl_varv rfl) (sx_p (sv_op (sx_p (sv_var rfl) (sx_p sv_int so_add))) so_ixL))) fun u14 => (sc_nil so_int))) fun u15 => (sx_p (sv_op (sx_p (sv_var rfl) (sx_p sv_int so_add))) so_mod))) fun u16 => (sc_nil so_rng1))) rfl (fun _ => rfl)
  (fun (k : Int) (rows1 : (List ((List Int) × Str × Int))) => ⟨[.v ((eL eI).v numbers), .v (eI.v at'), .v (eI.v most), .v (eI.v count), .v (eI.v many), .v (eI.v wide), .v ((eL eI).v prices), .ol (List.map (eT3 (eL eI) eS eI).e rows1), .v (eI.v k), .x, .x, .x, .x, .x], rfl, rfl,
  (ss_post (ss_setI (st1 := fun drawn => [.v ((eL eI).v numbers), .v (eI.v at'), .v (eI.v most), .v (eI.v count), .v (eI.v many), .v (eI.v wide), .v ((eL eI).v prices), .ol (List.map (eT3 (eL eI) eS eI).e rows1), .v (eI.v k), .v (eI.v drawn), .x, .x, .x, .x]) (sv_bi (sc_i (sv_op (sl_p (sl_varv rfl) (sx_p (sv_op (sx_p (sv_op (sx_p (sv_var rfl) (sx_p sv_int so_add))) (sx_p (sv_var rfl) so_add))) so_ixL))) fun u17 => (sc_nil so_int))) (fun _ => rfl) fun drawn =>
  (ss_setI (st1 := fun line => [.v ((eL eI).v numbers), .v (eI.v at'), .v (eI.v most), .v (eI.v count), .v (eI.v many), .v (eI.v wide), .v ((eL eI).v prices), .ol (List.map (eT3 (eL eI) eS eI).e rows1), .v (eI.v k), .v (eI.v drawn), .v ((eL eI).v line), .x, .x, .x]) (sv_eE (sn_lcI (E := eI) (F := eI) (si_range1 (sc_p (sv_var rfl) (sc_nil so_rng1))) rfl rfl (fun (j1 : Int) => ⟨[.v ((eL eI).v numbers), .v (eI.v at'), .v (eI.v most), .v (eI.v count), .v (eI.v many), .v (eI.v wide), .v ((eL eI).v prices), .ol (List.map (eT3 (eL eI) eS eI).e rows1), .v (eI.v k), .v (eI.v drawn), .x, .x, .x, .v (eI.v j1)], rfl, st_yes, (sv_op (sx_i (sv_op (sx_i (sv_bi (sc_i (sv_op (sx_i (sv_op (sl_p (sl_varv rfl) (sx_i (sv_op (sx_p (sv_op (sx_p (sv_var rfl) (sx_p sv_int so_add))) (sx_i (sv_op (sx_i (sv_bi (sc_i (sv_op (sx_i (sv_op (sx_p (sv_var rfl) (sx_p (sv_var rfl) so_mul))) fun u18 => (sx_p (sv_var rfl) so_add))) fun u19 => (sc_nil so_int))) fun u20 => (sx_p sv_int (so_modp (by decide))))) fun u21 => so_add))) fun u22 => so_ixL))) fun u23 => (sx_p (sv_op (sx_p sv_int (sx_p (sv_var rfl) (so_mulp (mul_litl (by decide)))))) so_add))) fun u24 => (sc_nil so_int))) fun u25 => (sx_p (sv_op (sx_p (sv_var rfl) (sx_p sv_int so_add))) so_mod))) fun u26 => (sx_i (sv_op (sx_p (sv_op (sx_p (sv_var rfl) (sx_p sv_int (so_modp (by decide))))) (sx_p (sv_op (sx_p sv_int (sx_p (sv_op (sx_p (sv_var rfl) (sx_p sv_int (so_divp (div_lit ⟨by decide, by decide⟩))))) so_add))) so_mul))) fun u27 => so_sub)))⟩))) (fun _ => rfl) fun line =>
  (ss_setI (st1 := fun relation => [.v ((eL eI).v numbers), .v (eI.v at'), .v (eI.v most), .v (eI.v count), .v (eI.v many), .v (eI.v wide), .v ((eL eI).v prices), .ol (List.map (eT3 (eL eI) eS eI).e rows1), .v (eI.v k), .v (eI.v drawn), .v ((eL eI).v line), .v (eS.v relation), .x, .x]) (sv_op (sl_p (sl_ofE (sv_eE (sn_lst (sc_p sv_str (sc_p sv_str (sc_p sv_str (sc_p sv_str (sc_p sv_str (sc_p sv_str (sc_nil (si_lst (f := List.map eS.e) rfl rfl)))))))))) rfl) (sx_p (sv_op (sx_p (sv_op (sx_p (sv_var rfl) (sx_p sv_int (so_divp (div_lit ⟨by decide, by decide⟩))))) (sx_p sv_int (so_modp (by decide))))) so_ixL))) (fun _ => rfl) fun relation =>
  (ss_setI (st1 := fun total => [.v ((eL eI).v numbers), .v (eI.v at'), .v (eI.v most), .v (eI.v count), .v (eI.v many), .v (eI.v wide), .v ((eL eI).v prices), .ol (List.map (eT3 (eL eI) eS eI).e rows1), .v (eI.v k), .v (eI.v drawn), .v ((eL eI).v line), .v (eS.v relation), .v (eI.v total), .x]) (sv_bi (sc_li (sl_ofE (sv_eE (sn_lcI (E := eI) (F := eI) (si_range1 (sc_p (sv_var rfl) (sc_nil so_rng1))) rfl rfl (fun (j2 : Int) => ⟨[.v ((eL eI).v numbers), .v (eI.v at'), .v (eI.v most), .v (eI.v count), .v (eI.v many), .v (eI.v wide), .v ((eL eI).v prices), .ol (List.map (eT3 (eL eI) eS eI).e rows1), .v (eI.v k), .v (eI.v drawn), .v ((eL eI).v line), .v (eS.v relation), .x, .v (eI.v j2)], rfl, st_yes, (sv_op (sx_i (sv_op (sl_p (sl_varv rfl) (sx_p (sv_var rfl) so_ixL))) fun u31 => (sx_i (sv_op (sx_i (sv_op (sx_i (sv_bi (sc_i (sv_op (sl_p (sl_varv rfl) (sx_p (sv_op (sx_p (sv_op (sx_p (sv_var rfl) (sx_p sv_int so_add))) (sx_p (sv_var rfl) so_add))) so_ixL))) fun u28 => (sc_nil so_int))) fun u29 => (sx_p sv_int (so_divp (div_lit ⟨by decide, by decide⟩))))) fun u30 => (sx_p sv_int (so_modp (by decide))))) fun u32 => so_mul)))⟩))) rfl) fun u33 => (sc_nil so_sum))) (fun _ => rfl) fun total =>
  (ss_last (ss_appI (E := (eT3 (eL eI) eS eI)) (st1 := fun rows2 => [.v ((eL eI).v numbers), .v (eI.v at'), .v (eI.v most), .v (eI.v count), .v (eI.v many), .v (eI.v wide), .v ((eL eI).v prices), .ol (List.map (eT3 (eL eI) eS eI).e rows2), .v (eI.v k), .v (eI.v drawn), .v ((eL eI).v line), .v (eS.v relation), .v (eI.v total), .x]) rfl (sv_tup (sc_p (sv_var rfl) (sc_p (sv_var rfl) (sc_i (sv_op (sx_p (sv_var rfl) (sx_i (sv_op (sl_p (sl_ofE (sv_eE (sn_lst (sc_p sv_int (sc_p sv_int (sc_p sv_int (sc_p (sv_neg sv_int) (sc_p sv_int (sc_nil (si_lst (f := List.map eI.e) rfl rfl))))))))) rfl) (sx_p (sv_op (sx_p (sv_op (sx_p (sv_var rfl) (sx_p sv_int (so_divp (div_lit ⟨by decide, by decide⟩))))) (sx_p sv_int (so_modp (by decide))))) so_ixL))) fun u34 => so_add))) fun u35 => (sc_nil (si_tup (e := (eT3 (eL eI) eS eI).v) rfl rfl)))))) (fun _ => rfl) fun rows2 =>
  (ss_nx (.inl rfl)))))))))⟩) fun (rows1 : (List ((List Int) × Str × Int))) =>
  (ss_frz (st1 := [.v ((eL eI).v numbers), .v (eI.v at'), .v (eI.v most), .v (eI.v count), .v (eI.v many), .v (eI.v wide), .v ((eL eI).v prices), .v ((eL (eT3 (eL eI) eS eI)).v rows1), .x, .x, .x, .x, .x, .x]) rfl rfl (ss_ret (sv_tup (sc_p (sv_var rfl) (sc_p (sv_var rfl) (sc_p (sv_var rfl) (sc_nil (si_tup (e := (eT3 eI (eL eI) (eL (eT3 (eL eI) eS eI))).v) rfl rfl)))))) rfl))))))))
noncomputable def xs_law_good (T : Tx K mg) : XS K := (.seq (.for_ (.list (.var 0)) (.tup (.cons (.name 2) (.cons (.name 3) (.cons (.name 4) .nil)))) (.post [2, 3, 4, 5] (.seq (.set 5 (.bi Bi.sum (.cons true (XN.e (XN.lc (.range1 (.cons false (.bi Bi.len (.cons true (.var 1) .nil)) .nil)) (.name 6) .yes (.op O2.mul (.op O2.ixL (.var 2) (.var 6)) (.op O2.ixL (.var 1) (.var 6))) [6])) .nil)))
    (.ite (.or (.and (.test (.op O2.ne (.var 3) (.str (PySem.Str.ofString "most")))) (.test (.op O2.lt (.var 5) (.var 4)))) (.and (.test (.op O2.ne (.var 3) (.str (PySem.Str.ofString "least")))) (.test (.op O2.gt (.var 5) (.var 4)))))
    (.ret (.bool false))
    XS.nx))))
    (.ret (.bool true)))
@[irreducible] noncomputable def fn_law_good (T : Tx K mg) : Fn := ⟨2, false, fun as => runX (xs_law_good T) false 5 as⟩
theorem fnf_law_good (T : Tx K mg) (as : List Av) : (fn_law_good T).f as = runX (xs_law_good T) false 5 as := by unfold fn_law_good; rfl
theorem fnm_law_good (T : Tx K mg) : (fn_law_good T).m = 2 := by unfold fn_law_good; rfl
theorem fno_law_good (T : Tx K mg) : (fn_law_good T).own = false := by unfold fn_law_good; rfl
@[irreducible] noncomputable def m_law_good (rows : (List ((List Int) × Str × Int))) (told : (List Int)) : Rs Bool :=
  (bindJ (forJ (fun (x : ((List Int) × Str × Int)) (_ : Unit) =>
  ((((rng1C (lenI told)).bind fun xs_ => lcM (β := Int) xs_ (fun (j : Int) => (Rs.ok true)) (fun (j : Int) => (((ixC x.1 j)).bind fun u => ((ixC told j)).bind fun u1 => (mulC u u1)))).bind fun u2 => Rs.ok u2.sum).bind fun total =>
  (if (((!decide (x.2.1 = (PySem.Str.ofString "most"))) && (decide (total < x.2.2))) || ((!decide (x.2.1 = (PySem.Str.ofString "least"))) && (decide (total > x.2.2)))) = true then
  (Rs.ok (LO.ex false))
  else (Rs.ok (LO.nx ()))))) rows ()) fun (_ : Unit) =>
  (Rs.ok true))
theorem r_law_good (T : Tx K mg) (rows : (List ((List Int) × Str × Int))) (told : (List Int)) : Si ((fn_law_good T).f [.v ((eL (eT3 (eL eI) eS eI)).v rows), .v ((eL eI).v told)]) (m_law_good rows told) eB.v := by
  rw [fnf_law_good]
  exact si_runX (show SS (xs_law_good T) [.v ((eL (eT3 (eL eI) eS eI)).v rows), .v ((eL eI).v told), .x, .x, .x, .x, .x] (m_law_good rows told) (PF false eB.v) from by
    unfold xs_law_good m_law_good
    exact (ss_forJ (F := (eT3 (eL eI) eS eI).e) (es := fun (_ : Unit) => [.v ((eL (eT3 (eL eI) eS eI)).v rows), .v ((eL eI).v told), .x, .x, .x, .x, .x]) (s0 := ()) (si_list (sw_varv rfl)) rfl (fun _ => rfl)
  (fun (x : ((List Int) × Str × Int)) (_ : Unit) => ⟨[.v ((eL (eT3 (eL eI) eS eI)).v rows), .v ((eL eI).v told), .v ((eL eI).v x.1), .v (eS.v x.2.1), .v (eI.v x.2.2), .x, .x], rfl, rfl,
  (ss_post (ss_setI (st1 := fun total => [.v ((eL (eT3 (eL eI) eS eI)).v rows), .v ((eL eI).v told), .v ((eL eI).v x.1), .v (eS.v x.2.1), .v (eI.v x.2.2), .v (eI.v total), .x]) (sv_bi (sc_li (sl_ofE (sv_eE (sn_lcI (E := eI) (F := eI) (si_range1 (sc_p (sv_bi (sc_lp (sl_varv rfl) (sc_nil so_len))) (sc_nil so_rng1))) rfl rfl (fun (j : Int) => ⟨[.v ((eL (eT3 (eL eI) eS eI)).v rows), .v ((eL eI).v told), .v ((eL eI).v x.1), .v (eS.v x.2.1), .v (eI.v x.2.2), .x, .v (eI.v j)], rfl, st_yes, (sv_op (sx_i (sv_op (sl_p (sl_varv rfl) (sx_p (sv_var rfl) so_ixL))) fun u => (sx_i (sv_op (sl_p (sl_varv rfl) (sx_p (sv_var rfl) so_ixL))) fun u1 => so_mul)))⟩))) rfl) fun u2 => (sc_nil so_sum))) (fun _ => rfl) fun total =>
  (ss_ite (st_or (st_and (st_test (sv_op (sx_p (sv_var rfl) (sx_p sv_str so_neS)))) (st_test (sv_op (sx_p (sv_var rfl) (sx_p (sv_var rfl) so_lt))))) (st_and (st_test (sv_op (sx_p (sv_var rfl) (sx_p sv_str so_neS)))) (st_test (sv_op (sx_p (sv_var rfl) (sx_p (sv_var rfl) so_gt))))))
  (ss_ret sv_bool ⟨rfl, rfl⟩)
  (ss_nx (.inl rfl)))))⟩) fun (_ : Unit) =>
  (ss_ret sv_bool rfl)))
noncomputable def xs_law_lists (T : Tx K mg) : XS K := (.ret (XN.e (XN.lc (.range1 (.cons false (.op O2.shl (.int 1) (.var 0)) .nil)) (.name 1) .yes (XN.e (XN.lc (.range1 (.cons false (.var 0) .nil)) (.name 2) .yes (.op O2.band (.op O2.shr (.var 1) (.op O2.sub (.op O2.sub (.var 0) (.int 1)) (.var 2))) (.int 1)) [2])) [1])))
@[irreducible] noncomputable def fn_law_lists (T : Tx K mg) : Fn := ⟨1, false, fun as => runX (xs_law_lists T) false 2 as⟩
theorem fnf_law_lists (T : Tx K mg) (as : List Av) : (fn_law_lists T).f as = runX (xs_law_lists T) false 2 as := by unfold fn_law_lists; rfl
theorem fnm_law_lists (T : Tx K mg) : (fn_law_lists T).m = 1 := by unfold fn_law_lists; rfl
theorem fno_law_lists (T : Tx K mg) : (fn_law_lists T).own = false := by unfold fn_law_lists; rfl
@[irreducible] noncomputable def m_law_lists (many : Int) : Rs (List (List Int)) :=
  ((((shlC 1 many)).bind fun u => rng1C u).bind fun xs_ => lcM (β := (List Int)) xs_ (fun (number : Int) => (Rs.ok true)) (fun (number : Int) => ((rng1C many).bind fun xs_ => lcM (β := Int) xs_ (fun (j : Int) => (Rs.ok true)) (fun (j : Int) => (((shrC number ((many - 1) - j))).bind fun u1 => Rs.ok (Builtin.bitAnd u1 1))))))
theorem r_law_lists (T : Tx K mg) (many : Int) : Si ((fn_law_lists T).f [.v (eI.v many)]) (m_law_lists many) (eL (eL eI)).v := by
  rw [fnf_law_lists]
  exact si_runX (show SS (xs_law_lists T) [.v (eI.v many), .x, .x] (m_law_lists many) (PF false (eL (eL eI)).v) from by
    unfold xs_law_lists m_law_lists
    exact (ss_retM (sv_eE (sn_lcI (E := (eL eI)) (F := eI) (si_range1 (sc_i (sv_op (sx_p sv_int (sx_p (sv_var rfl) so_shl))) fun u => (sc_nil so_rng1))) rfl rfl (fun (number : Int) => ⟨[.v (eI.v many), .v (eI.v number), .x], rfl, st_yes, (sv_eE (sn_lcI (E := eI) (F := eI) (si_range1 (sc_p (sv_var rfl) (sc_nil so_rng1))) rfl rfl (fun (j : Int) => ⟨[.v (eI.v many), .v (eI.v number), .v (eI.v j)], rfl, st_yes, (sv_op (sx_i (sv_op (sx_p (sv_var rfl) (sx_p (sv_op (sx_p (sv_op (sx_p (sv_var rfl) (sx_p sv_int so_sub))) (sx_p (sv_var rfl) so_sub))) so_shr))) fun u1 => (sx_p sv_int so_band)))⟩)))⟩))) fun _ => rfl))
noncomputable def xs_law_worth (T : Tx K mg) : XS K := (.ret (.bi Bi.sum (.cons true (XN.e (XN.lc (.range1 (.cons false (.bi Bi.len (.cons true (.var 1) .nil)) .nil)) (.name 2) .yes (.op O2.mul (.op O2.ixL (.var 0) (.var 2)) (.op O2.ixL (.var 1) (.var 2))) [2])) .nil)))
@[irreducible] noncomputable def fn_law_worth (T : Tx K mg) : Fn := ⟨2, false, fun as => runX (xs_law_worth T) false 1 as⟩
theorem fnf_law_worth (T : Tx K mg) (as : List Av) : (fn_law_worth T).f as = runX (xs_law_worth T) false 1 as := by unfold fn_law_worth; rfl
theorem fnm_law_worth (T : Tx K mg) : (fn_law_worth T).m = 2 := by unfold fn_law_worth; rfl
theorem fno_law_worth (T : Tx K mg) : (fn_law_worth T).own = false := by unfold fn_law_worth; rfl
@[irreducible] noncomputable def m_law_worth (prices : (List Int)) (told : (List Int)) : Rs Int :=
  (((rng1C (lenI told)).bind fun xs_ => lcM (β := Int) xs_ (fun (j : Int) => (Rs.ok true)) (fun (j : Int) => (((ixC prices j)).bind fun u => ((ixC told j)).bind fun u1 => (mulC u u1)))).bind fun u2 => Rs.ok u2.sum)
theorem r_law_worth (T : Tx K mg) (prices : (List Int)) (told : (List Int)) : Si ((fn_law_worth T).f [.v ((eL eI).v prices), .v ((eL eI).v told)]) (m_law_worth prices told) eI.v := by
  rw [fnf_law_worth]
  exact si_runX (show SS (xs_law_worth T) [.v ((eL eI).v prices), .v ((eL eI).v told), .x] (m_law_worth prices told) (PF false eI.v) from by
    unfold xs_law_worth m_law_worth
    exact (ss_retM (sv_bi (sc_li (sl_ofE (sv_eE (sn_lcI (E := eI) (F := eI) (si_range1 (sc_p (sv_bi (sc_lp (sl_varv rfl) (sc_nil so_len))) (sc_nil so_rng1))) rfl rfl (fun (j : Int) => ⟨[.v ((eL eI).v prices), .v ((eL eI).v told), .v (eI.v j)], rfl, st_yes, (sv_op (sx_i (sv_op (sl_p (sl_varv rfl) (sx_p (sv_var rfl) so_ixL))) fun u => (sx_i (sv_op (sl_p (sl_varv rfl) (sx_p (sv_var rfl) so_ixL))) fun u1 => so_mul)))⟩))) rfl) fun u2 => (sc_nil so_sum))) fun _ => rfl))
noncomputable def xs_law_fit (T : Tx K mg) : XS K := (.seq (.ite (.test (.op O2.ne (.bi Bi.len (.cons true (.var 1) .nil)) (.bi Bi.len (.cons true (.var 0) .nil))))
    (.ret (.bool false))
    XS.nx)
    (.seq (.for_ (.range1 (.cons false (.bi Bi.len (.cons true (.var 0) .nil)) .nil)) (.name 2) (.post [2] (.ite (.or (.and (.test (.op O2.eq (.op O2.ixT (.op O2.ixL (.var 0) (.var 2)) (.int 1)) (.str (PySem.Str.ofString "least")))) (.test (.op O2.lt (.op O2.ixT (.op O2.ixL (.var 1) (.var 2)) (.int 0)) (.int 0)))) (.and (.test (.op O2.eq (.op O2.ixT (.op O2.ixL (.var 0) (.var 2)) (.int 1)) (.str (PySem.Str.ofString "most")))) (.test (.op O2.gt (.op O2.ixT (.op O2.ixL (.var 1) (.var 2)) (.int 0)) (.int 0)))))
    (.ret (.bool false))
    XS.nx)))
    (.ret (.bool true))))
@[irreducible] noncomputable def fn_law_fit (T : Tx K mg) : Fn := ⟨2, false, fun as => runX (xs_law_fit T) false 1 as⟩
theorem fnf_law_fit (T : Tx K mg) (as : List Av) : (fn_law_fit T).f as = runX (xs_law_fit T) false 1 as := by unfold fn_law_fit; rfl
theorem fnm_law_fit (T : Tx K mg) : (fn_law_fit T).m = 2 := by unfold fn_law_fit; rfl
theorem fno_law_fit (T : Tx K mg) : (fn_law_fit T).own = false := by unfold fn_law_fit; rfl
@[irreducible] noncomputable def m_law_fit (rows : (List ((List Int) × Str × Int))) (weights : (List (Int × Int))) : Rs Bool :=
  (if (!decide ((lenI weights) = (lenI rows))) = true then
  (Rs.ok false)
  else ((rng1C (lenI rows)).bind fun xs_ => bindJ (forJ (fun (k : Int) (_ : Unit) =>
  (((((((ixC rows k)).bind fun u6 => Rs.ok u6.2.1).bind fun u7 => Rs.ok (decide (u7 = (PySem.Str.ofString "least")))).bind fun c1 => if c1 = true then ((((ixC weights k)).bind fun u4 => Rs.ok u4.1).bind fun u5 => Rs.ok (decide (u5 < 0))) else Rs.ok false).bind fun c2 => if c2 = true then Rs.ok true else (((((ixC rows k)).bind fun u2 => Rs.ok u2.2.1).bind fun u3 => Rs.ok (decide (u3 = (PySem.Str.ofString "most")))).bind fun c => if c = true then ((((ixC weights k)).bind fun u => Rs.ok u.1).bind fun u1 => Rs.ok (decide (u1 > 0))) else Rs.ok false)).bind fun c3 => if c3 = true then
  (Rs.ok (LO.ex false))
  else (Rs.ok (LO.nx ())))) xs_ ()) fun (_ : Unit) =>
  (Rs.ok true)))
theorem r_law_fit (T : Tx K mg) (rows : (List ((List Int) × Str × Int))) (weights : (List (Int × Int))) : Si ((fn_law_fit T).f [.v ((eL (eT3 (eL eI) eS eI)).v rows), .l (List.map (eT2 eI eI).e weights)]) (m_law_fit rows weights) eB.v := by
  rw [fnf_law_fit]
  exact si_runX (show SS (xs_law_fit T) [.v ((eL (eT3 (eL eI) eS eI)).v rows), .bl (List.map (eT2 eI eI).e weights), .x] (m_law_fit rows weights) (PF false eB.v) from by
    unfold xs_law_fit m_law_fit
    exact (ss_iteX (st_test (sv_op (sx_p (sv_bi (sc_lp (sl_varb rfl) (sc_nil so_len))) (sx_p (sv_bi (sc_lp (sl_varv rfl) (sc_nil so_len))) so_neI))))
  (ss_ret sv_bool ⟨rfl, rfl⟩)
  (ss_nxS (ss_forJI (F := eI.e) (es := fun (_ : Unit) => [.v ((eL (eT3 (eL eI) eS eI)).v rows), .bl (List.map (eT2 eI eI).e weights), .x]) (s0 := ()) (si_range1 (sc_p (sv_bi (sc_lp (sl_varv rfl) (sc_nil so_len))) (sc_nil so_rng1))) rfl (fun _ => rfl)
  (fun (k : Int) (_ : Unit) => ⟨[.v ((eL (eT3 (eL eI) eS eI)).v rows), .bl (List.map (eT2 eI eI).e weights), .v (eI.v k)], rfl, rfl,
  (ss_post (ss_iteI (st_orI (st_andI (st_test (sv_op (sx_i (sv_op (sx_i (sv_op (sl_p (sl_varv rfl) (sx_p (sv_var rfl) so_ixL))) fun u6 => (sx_p sv_int (so_ixT (E := eS) rfl)))) fun u7 => (sx_p sv_str so_eqS)))) (st_test (sv_op (sx_i (sv_op (sx_i (sv_op (sl_p (sl_varb rfl) (sx_p (sv_var rfl) so_ixL))) fun u4 => (sx_p sv_int (so_ixT (E := eI) rfl)))) fun u5 => (sx_p sv_int so_lt))))) (st_andI (st_test (sv_op (sx_i (sv_op (sx_i (sv_op (sl_p (sl_varv rfl) (sx_p (sv_var rfl) so_ixL))) fun u2 => (sx_p sv_int (so_ixT (E := eS) rfl)))) fun u3 => (sx_p sv_str so_eqS)))) (st_test (sv_op (sx_i (sv_op (sx_i (sv_op (sl_p (sl_varb rfl) (sx_p (sv_var rfl) so_ixL))) fun u => (sx_p sv_int (so_ixT (E := eI) rfl)))) fun u1 => (sx_p sv_int so_gt))))))
  (ss_ret sv_bool ⟨rfl, rfl⟩)
  (ss_nx (.inl rfl))))⟩) fun (_ : Unit) =>
  (ss_ret sv_bool rfl)))))
noncomputable def xs_law_bound (T : Tx K mg) : XS K := (.seq (.set 4 (.call (fn_law_weighted T) (fno_law_weighted T) (.cons false (XN.e (XN.lc (.list (.var 1)) (.name 8) .yes (.op O2.ixT (.var 8) (.int 2)) [8])) (.cons true (.var 3) .nil))))
    (.seq (.for_ (.range1 (.cons false (.bi Bi.len (.cons true (.var 0) .nil)) .nil)) (.name 5) (.post [5, 6, 7] (.seq (.set 6 (.call (fn_law_weighted T) (fno_law_weighted T) (.cons false (XN.e (XN.lc (.list (.var 1)) (.name 8) .yes (.op O2.ixL (.op O2.ixT (.var 8) (.int 0)) (.var 5)) [8])) (.cons true (.var 3) .nil))))
    (.seq (.set 7 (.call (fn_law_plus T) (fno_law_plus T) (.cons false (.tup (.cons false (.op O2.ixL (.var 0) (.var 5)) (.cons false (.int 1) .nil))) (.cons false (.tup (.cons false (.neg (.op O2.ixT (.var 6) (.int 0))) (.cons false (.op O2.ixT (.var 6) (.int 1)) .nil))) .nil))))
    (.ite (.or (.test (.op O2.eqD (.op O2.ixL (.var 2) (.var 5)) (.int 1))) (.and (.test (.op O2.isN (.op O2.ixL (.var 2) (.var 5)) .non)) (.test (.op O2.lt (.op O2.ixT (.var 7) (.int 0)) (.int 0)))))
    (.set 4 (.call (fn_law_plus T) (fno_law_plus T) (.cons false (.var 4) (.cons false (.var 7) .nil))))
    XS.nx)))))
    (.ret (.var 4))))
@[irreducible] noncomputable def fn_law_bound (T : Tx K mg) : Fn := ⟨4, false, fun as => runX (xs_law_bound T) false 5 as⟩
theorem fnf_law_bound (T : Tx K mg) (as : List Av) : (fn_law_bound T).f as = runX (xs_law_bound T) false 5 as := by unfold fn_law_bound; rfl
theorem fnm_law_bound (T : Tx K mg) : (fn_law_bound T).m = 4 := by unfold fn_law_bound; rfl
theorem fno_law_bound (T : Tx K mg) : (fn_law_bound T).own = false := by unfold fn_law_bound; rfl
@[irreducible] noncomputable def m_law_bound (prices : (List Int)) (rows : (List ((List Int) × Str × Int))) (fixing : (List (Option Int))) (weights : (List (Int × Int))) : Rs (Int × Int) :=
  (((lcM (β := Int) rows (fun (row : ((List Int) × Str × Int)) => (Rs.ok true)) (fun (row : ((List Int) × Str × Int)) => (Rs.ok row.2.2))).bind fun u => m_law_weighted u weights).bind fun total =>
  ((rng1C (lenI prices)).bind fun xs_ => (forR (fun (j : Int) (total1 : (Int × Int)) =>
  (((lcM (β := Int) rows (fun (row1 : ((List Int) × Str × Int)) => (Rs.ok true)) (fun (row1 : ((List Int) × Str × Int)) => ((ixC row1.1 j)))).bind fun u1 => m_law_weighted u1 weights).bind fun load =>
  (((((ixC prices j)).bind fun u2 => .ok (u2, 1)).bind fun u3 => m_law_plus u3 ((-load.1), load.2)).bind fun rest =>
  (((((ixC fixing j)).bind fun u5 => Rs.ok (decide (u5 = (some 1)))).bind fun c1 => if c1 = true then Rs.ok true else ((((ixC fixing j)).bind fun u4 => Rs.ok u4.isNone).bind fun c => if c = true then (Rs.ok (decide (rest.1 < 0))) else Rs.ok false)).bind fun c2 => if c2 = true then
  ((m_law_plus total1 rest).bind fun total2 =>
  (Rs.ok total2))
  else (Rs.ok total1))))) xs_ total).bind fun (total1 : (Int × Int)) =>
  (Rs.ok total1)))
theorem r_law_bound (T : Tx K mg) (prices : (List Int)) (rows : (List ((List Int) × Str × Int))) (fixing : (List (Option Int))) (weights : (List (Int × Int))) : Si ((fn_law_bound T).f [.v ((eL eI).v prices), .v ((eL (eT3 (eL eI) eS eI)).v rows), .v ((eL (eO eI)).v fixing), .l (List.map (eT2 eI eI).e weights)]) (m_law_bound prices rows fixing weights) (eT2 eI eI).v := by
  rw [fnf_law_bound]
  exact si_runX (show SS (xs_law_bound T) [.v ((eL eI).v prices), .v ((eL (eT3 (eL eI) eS eI)).v rows), .v ((eL (eO eI)).v fixing), .bl (List.map (eT2 eI eI).e weights), .x, .x, .x, .x, .x] (m_law_bound prices rows fixing weights) (PF false (eT2 eI eI).v) from by
    unfold xs_law_bound m_law_bound
    exact (ss_setI (st1 := fun total => [.v ((eL eI).v prices), .v ((eL (eT3 (eL eI) eS eI)).v rows), .v ((eL (eO eI)).v fixing), .bl (List.map (eT2 eI eI).e weights), .v ((eT2 eI eI).v total), .x, .x, .x, .x]) (sv_call (sc_i (sv_eE (sn_lc (E := eI) (F := (eT3 (eL eI) eS eI)) (si_list (sw_varv rfl)) rfl rfl (fun (row : ((List Int) × Str × Int)) => ⟨[.v ((eL eI).v prices), .v ((eL (eT3 (eL eI) eS eI)).v rows), .v ((eL (eO eI)).v fixing), .bl (List.map (eT2 eI eI).e weights), .x, .x, .x, .x, .v ((eT3 (eL eI) eS eI).v row)], rfl, st_yes, (sv_op (sx_p (sv_var rfl) (sx_p sv_int (so_ixT (E := eI) rfl))))⟩))) fun u => (sc_lp (sl_varb rfl) (sc_nil (si_fn (fnm_law_weighted T) (r_law_weighted T _ _)))))) (fun _ => rfl) fun total =>
  (ss_forRI (F := eI.e) (es := fun (total1 : (Int × Int)) => [.v ((eL eI).v prices), .v ((eL (eT3 (eL eI) eS eI)).v rows), .v ((eL (eO eI)).v fixing), .bl (List.map (eT2 eI eI).e weights), .v ((eT2 eI eI).v total1), .x, .x, .x, .x]) (s0 := total) (si_range1 (sc_p (sv_bi (sc_lp (sl_varv rfl) (sc_nil so_len))) (sc_nil so_rng1))) rfl (fun _ => rfl)
  (fun (j : Int) (total1 : (Int × Int)) => ⟨[.v ((eL eI).v prices), .v ((eL (eT3 (eL eI) eS eI)).v rows), .v ((eL (eO eI)).v fixing), .bl (List.map (eT2 eI eI).e weights), .v ((eT2 eI eI).v total1), .v (eI.v j), .x, .x, .x], rfl, rfl,
  (ss_post (ss_setI (st1 := fun load => [.v ((eL eI).v prices), .v ((eL (eT3 (eL eI) eS eI)).v rows), .v ((eL (eO eI)).v fixing), .bl (List.map (eT2 eI eI).e weights), .v ((eT2 eI eI).v total1), .v (eI.v j), .v ((eT2 eI eI).v load), .x, .x]) (sv_call (sc_i (sv_eE (sn_lc (E := eI) (F := (eT3 (eL eI) eS eI)) (si_list (sw_varv rfl)) rfl rfl (fun (row1 : ((List Int) × Str × Int)) => ⟨[.v ((eL eI).v prices), .v ((eL (eT3 (eL eI) eS eI)).v rows), .v ((eL (eO eI)).v fixing), .bl (List.map (eT2 eI eI).e weights), .v ((eT2 eI eI).v total1), .v (eI.v j), .x, .x, .v ((eT3 (eL eI) eS eI).v row1)], rfl, st_yes, (sv_op (sl_p (sl_ofE (sv_op (sx_p (sv_var rfl) (sx_p sv_int (so_ixT (E := (eL eI)) rfl)))) rfl) (sx_p (sv_var rfl) so_ixL)))⟩))) fun u1 => (sc_lp (sl_varb rfl) (sc_nil (si_fn (fnm_law_weighted T) (r_law_weighted T _ _)))))) (fun _ => rfl) fun load =>
  (ss_setI (st1 := fun rest => [.v ((eL eI).v prices), .v ((eL (eT3 (eL eI) eS eI)).v rows), .v ((eL (eO eI)).v fixing), .bl (List.map (eT2 eI eI).e weights), .v ((eT2 eI eI).v total1), .v (eI.v j), .v ((eT2 eI eI).v load), .v ((eT2 eI eI).v rest), .x]) (sv_call (sc_i (sv_tup (sc_i (sv_op (sl_p (sl_varv rfl) (sx_p (sv_var rfl) so_ixL))) fun u2 => (sc_p sv_int (sc_nil (si_tup (e := (eT2 eI eI).v) rfl rfl))))) fun u3 => (sc_p (sv_tup (sc_p (sv_neg (sv_op (sx_p (sv_var rfl) (sx_p sv_int (so_ixT (E := eI) rfl))))) (sc_p (sv_op (sx_p (sv_var rfl) (sx_p sv_int (so_ixT (E := eI) rfl)))) (sc_nil (si_tup (e := (eT2 eI eI).v) rfl rfl))))) (sc_nil (si_fn (fnm_law_plus T) (r_law_plus T _ _)))))) (fun _ => rfl) fun rest =>
  (ss_iteI (st_orI (st_test (sv_op (sx_i (sv_op (sl_p (sl_varv rfl) (sx_p (sv_var rfl) so_ixL))) fun u5 => (sx_p (sv_some sv_int) (so_eqD (E := (eO eI))))))) (st_andI (st_test (sv_op (sx_i (sv_op (sl_p (sl_varv rfl) (sx_p (sv_var rfl) so_ixL))) fun u4 => (sx_p sv_nonU so_isN)))) (st_test (sv_op (sx_p (sv_op (sx_p (sv_var rfl) (sx_p sv_int (so_ixT (E := eI) rfl)))) (sx_p sv_int so_lt))))))
  (ss_last (ss_setI (st1 := fun total2 => [.v ((eL eI).v prices), .v ((eL (eT3 (eL eI) eS eI)).v rows), .v ((eL (eO eI)).v fixing), .bl (List.map (eT2 eI eI).e weights), .v ((eT2 eI eI).v total2), .v (eI.v j), .v ((eT2 eI eI).v load), .v ((eT2 eI eI).v rest), .x]) (sv_call (sc_p (sv_var rfl) (sc_p (sv_var rfl) (sc_nil (si_fn (fnm_law_plus T) (r_law_plus T _ _)))))) (fun _ => rfl) fun total2 =>
  (ss_nx (.inl rfl))))
  (ss_nx (.inl rfl))))))⟩) fun (total1 : (Int × Int)) =>
  (ss_ret (sv_var rfl) rfl))))
noncomputable def xs_law_shows_none (T : Tx K mg) : XS K := (.ret (.andV (.call (fn_law_fit T) (fno_law_fit T) (.cons false (.var 1) (.cons true (.var 3) .nil))) (.op O2.gt (.op O2.ixT (.call (fn_law_bound T) (fno_law_bound T) (.cons false (XN.e (XN.op O2N.rep (XN.e (XN.lst (.cons false (.int 0) .nil))) (.bi Bi.len (.cons true (.var 0) .nil)))) (.cons false (.var 1) (.cons false (.var 2) (.cons true (.var 3) .nil))))) (.int 0)) (.int 0))))
@[irreducible] noncomputable def fn_law_shows_none (T : Tx K mg) : Fn := ⟨4, false, fun as => runX (xs_law_shows_none T) false 0 as⟩
theorem fnf_law_shows_none (T : Tx K mg) (as : List Av) : (fn_law_shows_none T).f as = runX (xs_law_shows_none T) false 0 as := by unfold fn_law_shows_none; rfl
theorem fnm_law_shows_none (T : Tx K mg) : (fn_law_shows_none T).m = 4 := by unfold fn_law_shows_none; rfl
theorem fno_law_shows_none (T : Tx K mg) : (fn_law_shows_none T).own = false := by unfold fn_law_shows_none; rfl
@[irreducible] noncomputable def m_law_shows_none (prices : (List Int)) (rows : (List ((List Int) × Str × Int))) (fixing : (List (Option Int))) (weights : (List (Int × Int))) : Rs Bool :=
  ((m_law_fit rows weights).bind fun c => if c = true then (((((repC ([0] : List Int) (lenI prices))).bind fun u => m_law_bound u rows fixing weights).bind fun u1 => Rs.ok u1.1).bind fun u2 => Rs.ok (decide (u2 > 0))) else Rs.ok false)
theorem r_law_shows_none (T : Tx K mg) (prices : (List Int)) (rows : (List ((List Int) × Str × Int))) (fixing : (List (Option Int))) (weights : (List (Int × Int))) : Si ((fn_law_shows_none T).f [.v ((eL eI).v prices), .v ((eL (eT3 (eL eI) eS eI)).v rows), .v ((eL (eO eI)).v fixing), .l (List.map (eT2 eI eI).e weights)]) (m_law_shows_none prices rows fixing weights) eB.v := by
  rw [fnf_law_shows_none]
  exact si_runX (show SS (xs_law_shows_none T) [.v ((eL eI).v prices), .v ((eL (eT3 (eL eI) eS eI)).v rows), .v ((eL (eO eI)).v fixing), .bl (List.map (eT2 eI eI).e weights)] (m_law_shows_none prices rows fixing weights) (PF false eB.v) from by
    unfold xs_law_shows_none m_law_shows_none
    exact (ss_retM (sv_andI (sv_call (sc_p (sv_var rfl) (sc_lp (sl_varb rfl) (sc_nil (si_fn (fnm_law_fit T) (r_law_fit T _ _)))))) (sv_op (sx_i (sv_op (sx_i (sv_call (sc_i (sv_eE (sn_op (sl_p (sl_ofE (sv_eE (sn_lst (sc_p sv_int (sc_nil (si_lst (f := List.map eI.e) rfl rfl))))) rfl) (sx_p (sv_bi (sc_lp (sl_varv rfl) (sc_nil so_len))) so_rep)))) fun u => (sc_p (sv_var rfl) (sc_p (sv_var rfl) (sc_lp (sl_varb rfl) (sc_nil (si_fn (fnm_law_bound T) (r_law_bound T _ _ _ _)))))))) fun u1 => (sx_p sv_int (so_ixT (E := eI) rfl)))) fun u2 => (sx_p sv_int so_gt)))) fun _ => rfl))
noncomputable def xs_law_closes (T : Tx K mg) : XS K := (.seq (.ite (.not (.B (.call (fn_law_fit T) (fno_law_fit T) (.cons false (.var 1) (.cons true (.var 3) .nil)))))
    (.ret (.bool false))
    XS.nx)
    (.seq (.set 6 (.call (fn_law_bound T) (fno_law_bound T) (.cons false (.var 0) (.cons false (.var 1) (.cons false (.var 2) (.cons true (.var 3) .nil))))))
    (.seq (.set 7 (.neg (.op O2.div (.neg (.op O2.ixT (.var 6) (.int 0))) (.op O2.ixT (.var 6) (.int 1)))))
    (.seq (.set 8 (XN.e (XN.lc (.list (.var 2)) (.name 9) .yes (.bi Bi.int (.cons false (.op O2.eqD (.var 9) (.int 1)) .nil)) [9])))
    (.ret (.orV (.op O2.gt (.var 7) (.var 4)) (.andV (.op O2.eq (.var 7) (.var 4)) (.op O2.geD (.var 8) (.var 5)))))))))
@[irreducible] noncomputable def fn_law_closes (T : Tx K mg) : Fn := ⟨6, false, fun as => runX (xs_law_closes T) false 4 as⟩
theorem fnf_law_closes (T : Tx K mg) (as : List Av) : (fn_law_closes T).f as = runX (xs_law_closes T) false 4 as := by unfold fn_law_closes; rfl
theorem fnm_law_closes (T : Tx K mg) : (fn_law_closes T).m = 6 := by unfold fn_law_closes; rfl
theorem fno_law_closes (T : Tx K mg) : (fn_law_closes T).own = false := by unfold fn_law_closes; rfl
@[irreducible] noncomputable def m_law_closes (prices : (List Int)) (rows : (List ((List Int) × Str × Int))) (fixing : (List (Option Int))) (weights : (List (Int × Int))) (value : Int) (told : (List Int)) : Rs Bool :=
  (((m_law_fit rows weights).bind fun u_ => Rs.ok (!u_)).bind fun c => if c = true then
  (Rs.ok false)
  else ((m_law_bound prices rows fixing weights).bind fun bound =>
  ((((divC (-bound.1) bound.2)).bind fun u_ => Rs.ok (-u_)).bind fun least =>
  ((lcM (β := Int) fixing (fun (bit : (Option Int)) => (Rs.ok true)) (fun (bit : (Option Int)) => (Rs.ok (bInt (decide (bit = (some 1))))))).bind fun first =>
  (Rs.ok ((decide (least > value)) || ((decide (least = value)) && (!(OrdE.lt (E := (eL eI)) first told)))))))))
theorem r_law_closes (T : Tx K mg) (prices : (List Int)) (rows : (List ((List Int) × Str × Int))) (fixing : (List (Option Int))) (weights : (List (Int × Int))) (value : Int) (told : (List Int)) : Si ((fn_law_closes T).f [.v ((eL eI).v prices), .v ((eL (eT3 (eL eI) eS eI)).v rows), .v ((eL (eO eI)).v fixing), .l (List.map (eT2 eI eI).e weights), .v (eI.v value), .v ((eL eI).v told)]) (m_law_closes prices rows fixing weights value told) eB.v := by
  rw [fnf_law_closes]
  exact si_runX (show SS (xs_law_closes T) [.v ((eL eI).v prices), .v ((eL (eT3 (eL eI) eS eI)).v rows), .v ((eL (eO eI)).v fixing), .bl (List.map (eT2 eI eI).e weights), .v (eI.v value), .v ((eL eI).v told), .x, .x, .x, .x] (m_law_closes prices rows fixing weights value told) (PF false eB.v) from by
    unfold xs_law_closes m_law_closes
    exact (ss_iteXI (st_notI (st_B (sv_call (sc_p (sv_var rfl) (sc_lp (sl_varb rfl) (sc_nil (si_fn (fnm_law_fit T) (r_law_fit T _ _))))))))
  (ss_ret sv_bool ⟨rfl, rfl⟩)
  (ss_nxS (ss_setI (st1 := fun bound => [.v ((eL eI).v prices), .v ((eL (eT3 (eL eI) eS eI)).v rows), .v ((eL (eO eI)).v fixing), .bl (List.map (eT2 eI eI).e weights), .v (eI.v value), .v ((eL eI).v told), .v ((eT2 eI eI).v bound), .x, .x, .x]) (sv_call (sc_p (sv_var rfl) (sc_p (sv_var rfl) (sc_p (sv_var rfl) (sc_lp (sl_varb rfl) (sc_nil (si_fn (fnm_law_bound T) (r_law_bound T _ _ _ _)))))))) (fun _ => rfl) fun bound =>
  (ss_setI (st1 := fun least => [.v ((eL eI).v prices), .v ((eL (eT3 (eL eI) eS eI)).v rows), .v ((eL (eO eI)).v fixing), .bl (List.map (eT2 eI eI).e weights), .v (eI.v value), .v ((eL eI).v told), .v ((eT2 eI eI).v bound), .v (eI.v least), .x, .x]) (sv_negI (sv_op (sx_p (sv_neg (sv_op (sx_p (sv_var rfl) (sx_p sv_int (so_ixT (E := eI) rfl))))) (sx_p (sv_op (sx_p (sv_var rfl) (sx_p sv_int (so_ixT (E := eI) rfl)))) so_div)))) (fun _ => rfl) fun least =>
  (ss_setI (st1 := fun first => [.v ((eL eI).v prices), .v ((eL (eT3 (eL eI) eS eI)).v rows), .v ((eL (eO eI)).v fixing), .bl (List.map (eT2 eI eI).e weights), .v (eI.v value), .v ((eL eI).v told), .v ((eT2 eI eI).v bound), .v (eI.v least), .v ((eL eI).v first), .x]) (sv_eE (sn_lc (E := eI) (F := (eO eI)) (si_list (sw_varv rfl)) rfl rfl (fun (bit : (Option Int)) => ⟨[.v ((eL eI).v prices), .v ((eL (eT3 (eL eI) eS eI)).v rows), .v ((eL (eO eI)).v fixing), .bl (List.map (eT2 eI eI).e weights), .v (eI.v value), .v ((eL eI).v told), .v ((eT2 eI eI).v bound), .v (eI.v least), .x, .v ((eO eI).v bit)], rfl, st_yes, (sv_bi (sc_p (sv_op (sx_p (sv_var rfl) (sx_p (sv_some sv_int) (so_eqD (E := (eO eI)))))) (sc_nil so_intB)))⟩))) (fun _ => rfl) fun first =>
  (ss_ret (sv_or (sv_op (sx_p (sv_var rfl) (sx_p (sv_var rfl) so_gt))) (sv_and (sv_op (sx_p (sv_var rfl) (sx_p (sv_var rfl) so_eqI))) (sv_op (sx_p (sv_var rfl) (sx_p (sv_var rfl) (so_geD (E := (eL eI)))))))) rfl)))))))
noncomputable def xs_law_some (T : Tx K mg) : XS K := (.ret (.call (fn_law_lowest T) (fno_law_lowest T) (.cons false (.op O2.sub (.op O2.mod (.bi Bi.int (.cons false (.op O2.ixL (.var 0) (.op O2.add (.var 1) (.op O2.mod (.bi Bi.int (.cons false (.var 2) .nil)) (.int 30)))) .nil)) (.int 9)) (.int 3)) (.cons false (.op O2.add (.int 1) (.op O2.mod (.op O2.div (.bi Bi.int (.cons false (.op O2.ixL (.var 0) (.op O2.add (.var 1) (.op O2.mod (.bi Bi.int (.cons false (.op O2.add (.var 2) (.int 5)) .nil)) (.int 30)))) .nil)) (.int 9)) (.int 3))) .nil))))
@[irreducible] noncomputable def fn_law_some (T : Tx K mg) : Fn := ⟨3, false, fun as => runX (xs_law_some T) false 0 as⟩
theorem fnf_law_some (T : Tx K mg) (as : List Av) : (fn_law_some T).f as = runX (xs_law_some T) false 0 as := by unfold fn_law_some; rfl
theorem fnm_law_some (T : Tx K mg) : (fn_law_some T).m = 3 := by unfold fn_law_some; rfl
theorem fno_law_some (T : Tx K mg) : (fn_law_some T).own = false := by unfold fn_law_some; rfl
@[irreducible] noncomputable def m_law_some (numbers : (List Int)) (at' : Int) (k : Int) : Rs (Int × Int) :=
  ((((((ixC numbers (at' + (k % 30)))).bind fun u => Rs.ok u).bind fun u1 => Rs.ok (u1 % 9)).bind fun u2 => Rs.ok (u2 - 3)).bind fun u7 => ((((((ixC numbers (at' + ((k + 5) % 30)))).bind fun u3 => Rs.ok u3).bind fun u4 => Rs.ok (u4 / 9)).bind fun u5 => Rs.ok (u5 % 3)).bind fun u6 => Rs.ok (1 + u6)).bind fun u8 => m_law_lowest u7 u8)
theorem r_law_some (T : Tx K mg) (numbers : (List Int)) (at' : Int) (k : Int) : Si ((fn_law_some T).f [.v ((eL eI).v numbers), .v (eI.v at'), .v (eI.v k)]) (m_law_some numbers at' k) (eT2 eI eI).v := by
  rw [fnf_law_some]
  exact si_runX (show SS (xs_law_some T) [.v ((eL eI).v numbers), .v (eI.v at'), .v (eI.v k)] (m_law_some numbers at' k) (PF false (eT2 eI eI).v) from by
    unfold xs_law_some m_law_some
    exact (ss_retM (sv_call (sc_i (sv_op (sx_i (sv_op (sx_i (sv_bi (sc_i (sv_op (sl_p (sl_varv rfl) (sx_p (sv_op (sx_p (sv_var rfl) (sx_p (sv_op (sx_p (sv_bi (sc_p (sv_var rfl) (sc_nil so_int))) (sx_p sv_int (so_modp (by decide))))) so_add))) so_ixL))) fun u => (sc_nil so_int))) fun u1 => (sx_p sv_int (so_modp (by decide))))) fun u2 => (sx_p sv_int so_sub))) fun u7 => (sc_i (sv_op (sx_p sv_int (sx_i (sv_op (sx_i (sv_op (sx_i (sv_bi (sc_i (sv_op (sl_p (sl_varv rfl) (sx_p (sv_op (sx_p (sv_var rfl) (sx_p (sv_op (sx_p (sv_bi (sc_p (sv_op (sx_p (sv_var rfl) (sx_p sv_int so_add))) (sc_nil so_int))) (sx_p sv_int (so_modp (by decide))))) so_add))) so_ixL))) fun u3 => (sc_nil so_int))) fun u4 => (sx_p sv_int (so_divp (div_lit ⟨by decide, by decide⟩))))) fun u5 => (sx_p sv_int (so_modp (by decide))))) fun u6 => so_add))) fun u8 => (sc_nil (si_fn (fnm_law_lowest T) (r_law_lowest T _ _)))))) fun _ => rfl))
def xu_law_refused (T : Tx K mg) (a : Addr) (cls : Value) (d : Option Addr) : XS K := (.ret (.tup (.cons false (XN.e (XN.lst (.cons false (.isX 4 a cls d T.c_TooMany T.kn T.kn_is) (.cons false (.isX 4 a cls d T.c_WrongSize T.kn T.kn_is) (.cons false (.isX 4 a cls d T.c_BadFixing T.kn T.kn_is) .nil))))) (.cons false (.errAt 4 a cls d T.kn T.kn_at) .nil))))
@[irreducible] noncomputable def sm_law_refused (T : Tx K mg) (C : Addr) (n : Int) : Rs (Option ((List Bool) × Int)) := ((((isXC K T.kn C T.c_TooMany).bind fun u => (isXC K T.kn C T.c_WrongSize).bind fun u1 => (isXC K T.kn C T.c_BadFixing).bind fun u2 => .ok ([u, u1, u2] : List Bool)).bind fun u3 => (grd (C ∈ T.kn) (Rs.ok n)).bind fun u4 => .ok (u3, u4)).bind fun o_ => Rs.ok (some o_))
theorem sr_law_refused (T : Tx K mg) (a d C : Addr) (n : Int) (st : List Sv) (hn : 5 ≤ st.length) : SS (xu_law_refused T a (.ref C) (some d)) (st.set 4 (.er a d n)) (sm_law_refused T C n) (fun v o => o = .rt ((eO (eT2 (eL eB) eI)).v v)) := by
  unfold xu_law_refused sm_law_refused
  have he : (st.set 4 (.er a d n))[(4 : Nat)]? = some (.er a d n) := List.getElem?_set_self (by omega)
  exact (ss_retM (sv_someI (sv_tup (sc_i (sv_eE (sn_lst (sc_i (sv_isX he) fun u => (sc_i (sv_isX he) fun u1 => (sc_i (sv_isX he) fun u2 => (sc_nil (si_lst (f := List.map eB.e) rfl rfl))))))) fun u3 => (sc_i (sv_errAt he) fun u4 => (sc_nil (si_tup (e := (eT2 (eL eB) eI).v) rfl rfl)))))) fun _ => rfl)
noncomputable def xs_law_refused (T : Tx K mg) : XS K := (.seq (.try_ 4 T.c_WebError (.ite (.test (.op O2.eq (.var 0) (.int 0)))
    (.drop (.call (fn_case_bound T) (fno_case_bound T) (.cons false (.var 1) (.cons false (.var 2) (.cons true (.var 3) .nil)))))
    (.ite (.test (.op O2.eq (.var 0) (.int 1)))
    (.drop (.call (fn_shows_none T) (fno_shows_none T) (.cons false (.var 1) (.cons false (.var 2) (.cons true (.var 3) .nil)))))
    (.drop (.call (fn_closes T) (fno_closes T) (.cons false (.var 1) (.cons false (.var 2) (.cons true (.var 3) (.cons false (.int 0) (.cons false (XN.e (XN.lst .nil)) .nil))))))))) (XH.ofM 4 5 (xu_law_refused T) (sm_law_refused T) (eO (eT2 (eL eB) eI)).v (sr_law_refused T)))
    (.ret .non))
@[irreducible] noncomputable def fn_law_refused (T : Tx K mg) : Fn := ⟨4, false, fun as => runX (xs_law_refused T) false 1 as⟩
theorem fnf_law_refused (T : Tx K mg) (as : List Av) : (fn_law_refused T).f as = runX (xs_law_refused T) false 1 as := by unfold fn_law_refused; rfl
theorem fnm_law_refused (T : Tx K mg) : (fn_law_refused T).m = 4 := by unfold fn_law_refused; rfl
theorem fno_law_refused (T : Tx K mg) : (fn_law_refused T).own = false := by unfold fn_law_refused; rfl
@[irreducible] noncomputable def m_law_refused (T : Tx K mg) (way : Int) (program : Ob_Program) (fixing : (List (Option Int))) (weights : (List (Int × Int))) : Rs (Option ((List Bool) × Int)) :=
  (bindJ (tryJ (if (decide (way = 0)) = true then
  ((m_case_bound T program fixing weights).bind fun _ =>
  (Rs.ok (J.nx ())))
  else (if (decide (way = 1)) = true then
  ((m_shows_none T program fixing weights).bind fun _ =>
  (Rs.ok (J.nx ())))
  else ((m_closes T program fixing weights 0 ([] : List Int)).bind fun _ =>
  (Rs.ok (J.nx ()))))) fun C n => hndM K T.c_WebError C (sm_law_refused T C n) (fun v_ => v_)) fun (_ : Unit) =>
  (Rs.ok none))
theorem r_law_refused (T : Tx K mg) (way : Int) (program : Ob_Program) (fixing : (List (Option Int))) (weights : (List (Int × Int))) : Si ((fn_law_refused T).f [.v (eI.v way), .v ((vo_Program T) program), .v ((eL (eO eI)).v fixing), .l (List.map (eT2 eI eI).e weights)]) (m_law_refused T way program fixing weights) (eO (eT2 (eL eB) eI)).v := by
  rw [fnf_law_refused]
  exact si_runX (show SS (xs_law_refused T) [.v (eI.v way), .v ((vo_Program T) program), .v ((eL (eO eI)).v fixing), .bl (List.map (eT2 eI eI).e weights), .x] (m_law_refused T way program fixing weights) (PF false (eO (eT2 (eL eB) eI)).v) from by
    unfold xs_law_refused m_law_refused
    exact (ss_try (es := fun _ => [.v (eI.v way), .v ((vo_Program T) program), .v ((eL (eO eI)).v fixing), .bl (List.map (eT2 eI eI).e weights), .x]) (f := fun v_ => v_) (hM := sr_law_refused T) (ss_ite (st_test (sv_op (sx_p (sv_var rfl) (sx_p sv_int so_eqI))))
  (ss_last (ss_drop (sv_call (sc_p (sv_var rfl) (sc_p (sv_var rfl) (sc_lp (sl_varb rfl) (sc_nil (si_fn (fnm_case_bound T) (r_case_bound T _ _ _)))))))
  (ss_nx rfl)))
  (ss_ite (st_test (sv_op (sx_p (sv_var rfl) (sx_p sv_int so_eqI))))
  (ss_last (ss_drop (sv_call (sc_p (sv_var rfl) (sc_p (sv_var rfl) (sc_lp (sl_varb rfl) (sc_nil (si_fn (fnm_shows_none T) (r_shows_none T _ _ _)))))))
  (ss_nx rfl)))
  (ss_last (ss_drop (sv_call (sc_p (sv_var rfl) (sc_p (sv_var rfl) (sc_lp (sl_varb rfl) (sc_p sv_int (sc_p (sv_eE (sn_lst (sc_nil (si_lst (f := List.map eI.e) rfl rfl)))) (sc_nil (si_fn (fnm_closes T) (r_closes T _ _ _ _ _)))))))))
  (ss_nx rfl))))) (fun _ => rfl) (fun _ => rfl) rfl fun _ =>
  (ss_ret sv_non rfl)))
noncomputable def xs_law_refusals (T : Tx K mg) : XS K := (.seq (.set 4 (.make T.c_Program (fn_Program___init__ T) (.cons false (XN.e (XN.op O2N.rep (XN.e (XN.lst (.cons false (.int 1) .nil))) (.op O2.add (.int 17) (.op O2.mod (.bi Bi.int (.cons false (.op O2.ixL (.var 0) (.int 0)) .nil)) (.int 9))))) (.cons false (XN.e (XN.lst .nil)) .nil))))
    (.seq (.set 5 (.op O2.mod (.bi Bi.int (.cons false (.op O2.ixL (.var 0) (.int 1)) .nil)) (.bi Bi.len (.cons true (.var 2) .nil))))
    (.seq (.set 6 (XN.e (XN.op O2N.cat (XN.e (XN.op O2N.cat (XN.e (XN.sl (.var 2) .none (.some (.var 5)))) (XN.e (XN.lst (.cons false (.op O2.ixL (XN.e (XN.lst (.cons false (.int 2) (.cons false (.neg (.int 1)) (.cons false (.int 7) .nil))))) (.op O2.mod (.bi Bi.int (.cons false (.op O2.ixL (.var 0) (.int 2)) .nil)) (.int 3))) .nil))))) (XN.e (XN.sl (.var 2) (.some (.op O2.add (.var 5) (.int 1))) .none)))))
    (.seq (.for_ (.range1 (.cons false (.int 3) .nil)) (.name 7) (.post [7] (.seq (.ite (.test (.op O2.neD (.call (fn_law_refused T) (fno_law_refused T) (.cons false (.var 7) (.cons false (.var 4) (.cons false (.var 6) (.cons true (XN.e (XN.lst .nil)) .nil))))) (.tup (.cons false (XN.e (XN.lst (.cons false (.bool true) (.cons false (.bool false) (.cons false (.bool false) .nil))))) (.cons false (.meth T.c_Program "count" (fn_Program_count T) (fno_Program_count T) (.var 4) .nil) .nil)))))
    (.ret (.bool false))
    XS.nx)
    (.seq (.ite (.test (.op O2.neD (.call (fn_law_refused T) (fno_law_refused T) (.cons false (.var 7) (.cons false (.var 1) (.cons false (XN.e (XN.op O2N.cat (.var 6) (XN.e (XN.lst (.cons false (.int 5) .nil))))) (.cons true (.var 3) .nil))))) (.tup (.cons false (XN.e (XN.lst (.cons false (.bool false) (.cons false (.bool true) (.cons false (.bool false) .nil))))) (.cons false (.int 0) .nil)))))
    (.ret (.bool false))
    XS.nx)
    (.ite (.test (.op O2.neD (.call (fn_law_refused T) (fno_law_refused T) (.cons false (.var 7) (.cons false (.var 1) (.cons false (.var 6) (.cons true (XN.e (XN.op O2N.cat (.var 3) (XN.e (XN.lst (.cons false (.tup (.cons false (.int 1) (.cons false (.int 1) .nil))) .nil))))) .nil))))) (.tup (.cons false (XN.e (XN.lst (.cons false (.bool false) (.cons false (.bool false) (.cons false (.bool true) .nil))))) (.cons false (.var 5) .nil)))))
    (.ret (.bool false))
    XS.nx)))))
    (.ret (.op O2.eqD (.call (fn_law_refused T) (fno_law_refused T) (.cons false (.int 0) (.cons false (.var 1) (.cons false (.var 2) (.cons true (XN.e (XN.op O2N.cat (.var 3) (XN.e (XN.lst (.cons false (.tup (.cons false (.int 0) (.cons false (.int 1) .nil))) .nil))))) .nil))))) (.tup (.cons false (XN.e (XN.lst (.cons false (.bool false) (.cons false (.bool true) (.cons false (.bool false) .nil))))) (.cons false (.int 0) .nil)))))))))
@[irreducible] noncomputable def fn_law_refusals (T : Tx K mg) : Fn := ⟨4, false, fun as => runX (xs_law_refusals T) false 4 as⟩
theorem fnf_law_refusals (T : Tx K mg) (as : List Av) : (fn_law_refusals T).f as = runX (xs_law_refusals T) false 4 as := by unfold fn_law_refusals; rfl
theorem fnm_law_refusals (T : Tx K mg) : (fn_law_refusals T).m = 4 := by unfold fn_law_refusals; rfl
theorem fno_law_refusals (T : Tx K mg) : (fn_law_refusals T).own = false := by unfold fn_law_refusals; rfl
@[irreducible] noncomputable def m_law_refusals (T : Tx K mg) (numbers : (List Int)) (program : Ob_Program) (fixing : (List (Option Int))) (weights : (List (Int × Int))) : Rs Bool :=
  ((((((((ixC numbers 0)).bind fun u => Rs.ok u).bind fun u1 => Rs.ok (u1 % 9)).bind fun u2 => Rs.ok (17 + u2)).bind fun u3 => (repC ([1] : List Int) u3)).bind fun u4 => m_Program___init__ T u4 ([] : List ((List Int) × Str × Int))).bind fun wide =>
  (((((ixC numbers 1)).bind fun u5 => Rs.ok u5).bind fun u6 => (modC u6 (lenI fixing))).bind fun at' =>
  ((((((((((ixC numbers 2)).bind fun u7 => Rs.ok u7).bind fun u8 => Rs.ok (u8 % 3)).bind fun u9 => (ixC ([2, (-1), 7] : List Int) u9)).bind fun o_ => Rs.ok (some o_)).bind fun u10 => .ok ([u10] : List (Option Int))).bind fun u11 => (catC (cutT fixing none (some at')) u11)).bind fun u12 => (catC u12 (cutT fixing (some (at' + 1)) none))).bind fun bad =>
  (bindJ (forJ (fun (way : Int) (_ : Unit) =>
  (((m_law_refused T way wide bad ([] : List (Int × Int))).bind fun u14 => (((m_Program_count wide).bind fun u13 => .ok (([true, false, false] : List Bool), u13)).bind fun o_ => Rs.ok (some o_)).bind fun u15 => Rs.ok (!decide (u14 = u15))).bind fun c2 => if c2 = true then
  (Rs.ok (LO.ex false))
  else (((((catC bad ([(some 5)] : List (Option Int)))).bind fun u16 => m_law_refused T way program u16 weights).bind fun u17 => Rs.ok (!decide (u17 = (some (([false, true, false] : List Bool), 0))))).bind fun c1 => if c1 = true then
  (Rs.ok (LO.ex false))
  else (((((catC weights ([(1, 1)] : List (Int × Int)))).bind fun u18 => m_law_refused T way program bad u18).bind fun u19 => Rs.ok (!decide (u19 = (some (([false, false, true] : List Bool), at'))))).bind fun c => if c = true then
  (Rs.ok (LO.ex false))
  else (Rs.ok (LO.nx ())))))) (rngL 0 3) ()) fun (_ : Unit) =>
  ((((catC weights ([(0, 1)] : List (Int × Int)))).bind fun u20 => m_law_refused T 0 program fixing u20).bind fun u21 => Rs.ok (decide (u21 = (some (([false, true, false] : List Bool), 0)))))))))
theorem r_law_refusals (T : Tx K mg) (numbers : (List Int)) (program : Ob_Program) (fixing : (List (Option Int))) (weights : (List (Int × Int))) : Si ((fn_law_refusals T).f [.v ((eL eI).v numbers), .v ((vo_Program T) program), .v ((eL (eO eI)).v fixing), .l (List.map (eT2 eI eI).e weights)]) (m_law_refusals T numbers program fixing weights) eB.v := by
  rw [fnf_law_refusals]
  exact si_runX (show SS (xs_law_refusals T) [.v ((eL eI).v numbers), .v ((vo_Program T) program), .v ((eL (eO eI)).v fixing), .bl (List.map (eT2 eI eI).e weights), .x, .x, .x, .x] (m_law_refusals T numbers program fixing weights) (PF false eB.v) from by
    unfold xs_law_refusals m_law_refusals
    exact (ss_setI (st1 := fun wide => [.v ((eL eI).v numbers), .v ((vo_Program T) program), .v ((eL (eO eI)).v fixing), .bl (List.map (eT2 eI eI).e weights), .v ((vo_Program T) wide), .x, .x, .x]) (sv_make (sc_i (sv_eE (sn_op (sl_p (sl_ofE (sv_eE (sn_lst (sc_p sv_int (sc_nil (si_lst (f := List.map eI.e) rfl rfl))))) rfl) (sx_i (sv_op (sx_p sv_int (sx_i (sv_op (sx_i (sv_bi (sc_i (sv_op (sl_p (sl_varv rfl) (sx_p sv_int so_ixL))) fun u => (sc_nil so_int))) fun u1 => (sx_p sv_int (so_modp (by decide))))) fun u2 => so_add))) fun u3 => so_rep)))) fun u4 => (sc_p (sv_eE (sn_lst (sc_nil (si_lst (f := List.map (eT3 (eL eI) eS eI).e) rfl rfl)))) (sc_nil (si_make (fnm_Program___init__ T) (r_Program___init__ T _ _)))))) (fun _ => rfl) fun wide =>
  (ss_setI (st1 := fun at' => [.v ((eL eI).v numbers), .v ((vo_Program T) program), .v ((eL (eO eI)).v fixing), .bl (List.map (eT2 eI eI).e weights), .v ((vo_Program T) wide), .v (eI.v at'), .x, .x]) (sv_op (sx_i (sv_bi (sc_i (sv_op (sl_p (sl_varv rfl) (sx_p sv_int so_ixL))) fun u5 => (sc_nil so_int))) fun u6 => (sx_p (sv_bi (sc_lp (sl_varv rfl) (sc_nil so_len))) so_mod))) (fun _ => rfl) fun at' =>
  (ss_setI (st1 := fun bad => [.v ((eL eI).v numbers), .v ((vo_Program T) program), .v ((eL (eO eI)).v fixing), .bl (List.map (eT2 eI eI).e weights), .v ((vo_Program T) wide), .v (eI.v at'), .v ((eL (eO eI)).v bad), .x]) (sv_eE (sn_op (sl_i (sl_ofE (sv_eE (sn_op (sl_p (sl_ofE (sv_eE (sn_sl (sl_varv rfl) so_none (so_some (sv_var rfl)))) rfl) (sl_i (sl_ofE (sv_eE (sn_lst (sc_i (sv_someI (sv_op (sl_p (sl_ofE (sv_eE (sn_lst (sc_p sv_int (sc_p (sv_neg sv_int) (sc_p sv_int (sc_nil (si_lst (f := List.map eI.e) rfl rfl))))))) rfl) (sx_i (sv_op (sx_i (sv_bi (sc_i (sv_op (sl_p (sl_varv rfl) (sx_p sv_int so_ixL))) fun u7 => (sc_nil so_int))) fun u8 => (sx_p sv_int (so_modp (by decide))))) fun u9 => so_ixL)))) fun u10 => (sc_nil (si_lst (f := List.map (eO eI).e) rfl rfl))))) rfl) fun u11 => so_cat)))) rfl) fun u12 => (sl_p (sl_ofE (sv_eE (sn_sl (sl_varv rfl) (so_some (sv_op (sx_p (sv_var rfl) (sx_p sv_int so_add)))) so_none)) rfl) so_cat)))) (fun _ => rfl) fun bad =>
  (ss_forJ (F := eI.e) (es := fun (_ : Unit) => [.v ((eL eI).v numbers), .v ((vo_Program T) program), .v ((eL (eO eI)).v fixing), .bl (List.map (eT2 eI eI).e weights), .v ((vo_Program T) wide), .v (eI.v at'), .v ((eL (eO eI)).v bad), .x]) (s0 := ()) (si_range1 (sc_p sv_int (sc_nil (so_rng1p (by decide))))) rfl (fun _ => rfl)
  (fun (way : Int) (_ : Unit) => ⟨[.v ((eL eI).v numbers), .v ((vo_Program T) program), .v ((eL (eO eI)).v fixing), .bl (List.map (eT2 eI eI).e weights), .v ((vo_Program T) wide), .v (eI.v at'), .v ((eL (eO eI)).v bad), .v (eI.v way)], rfl, rfl,
  (ss_post (ss_iteXI (st_test (sv_op (sx_i (sv_call (sc_p (sv_var rfl) (sc_p (sv_var rfl) (sc_p (sv_var rfl) (sc_lp (sl_ofE (sv_eE (sn_lst (sc_nil (si_lst (f := List.map (eT2 eI eI).e) rfl rfl)))) rfl) (sc_nil (si_fn (fnm_law_refused T) (r_law_refused T _ _ _ _)))))))) fun u14 => (sx_i (sv_someI (sv_tup (sc_p (sv_eE (sn_lst (sc_p sv_bool (sc_p sv_bool (sc_p sv_bool (sc_nil (si_lst (f := List.map eB.e) rfl rfl))))))) (sc_i (sv_meth (sv_var rfl) (inst_of rfl) (sc_nil (si_me (fnm_Program_count T) (r_Program_count T wide)))) fun u13 => (sc_nil (si_tup (e := (eT2 (eL eB) eI).v) rfl rfl)))))) fun u15 => (so_neD (E := (eO (eT2 (eL eB) eI))))))))
  (ss_ret sv_bool ⟨⟨rfl, rfl⟩, rfl⟩)
  (ss_nxS (ss_iteXI (st_test (sv_op (sx_i (sv_call (sc_p (sv_var rfl) (sc_p (sv_var rfl) (sc_i (sv_eE (sn_op (sl_p (sl_varv rfl) (sl_p (sl_ofE (sv_eE (sn_lst (sc_p (sv_some sv_int) (sc_nil (si_lst (f := List.map (eO eI).e) rfl rfl))))) rfl) so_cat)))) fun u16 => (sc_lp (sl_varb rfl) (sc_nil (si_fn (fnm_law_refused T) (r_law_refused T _ _ _ _)))))))) fun u17 => (sx_p (sv_some (sv_tup (sc_p (sv_eE (sn_lst (sc_p sv_bool (sc_p sv_bool (sc_p sv_bool (sc_nil (si_lst (f := List.map eB.e) rfl rfl))))))) (sc_p sv_int (sc_nil (si_tup (e := (eT2 (eL eB) eI).v) rfl rfl)))))) (so_neD (E := (eO (eT2 (eL eB) eI))))))))
  (ss_ret sv_bool ⟨⟨rfl, rfl⟩, rfl⟩)
  (ss_nxS (ss_iteI (st_test (sv_op (sx_i (sv_call (sc_p (sv_var rfl) (sc_p (sv_var rfl) (sc_p (sv_var rfl) (sc_li (sl_ofE (sv_eE (sn_op (sl_p (sl_varb rfl) (sl_p (sl_ofE (sv_eE (sn_lst (sc_p (sv_tup (sc_p sv_int (sc_p sv_int (sc_nil (si_tup (e := (eT2 eI eI).v) rfl rfl))))) (sc_nil (si_lst (f := List.map (eT2 eI eI).e) rfl rfl))))) rfl) so_cat)))) rfl) fun u18 => (sc_nil (si_fn (fnm_law_refused T) (r_law_refused T _ _ _ _)))))))) fun u19 => (sx_p (sv_some (sv_tup (sc_p (sv_eE (sn_lst (sc_p sv_bool (sc_p sv_bool (sc_p sv_bool (sc_nil (si_lst (f := List.map eB.e) rfl rfl))))))) (sc_p (sv_var rfl) (sc_nil (si_tup (e := (eT2 (eL eB) eI).v) rfl rfl)))))) (so_neD (E := (eO (eT2 (eL eB) eI))))))))
  (ss_ret sv_bool ⟨rfl, rfl⟩)
  (ss_nx (.inl rfl))))))))⟩) fun (_ : Unit) =>
  (ss_retM (sv_op (sx_i (sv_call (sc_p sv_int (sc_p (sv_var rfl) (sc_p (sv_var rfl) (sc_li (sl_ofE (sv_eE (sn_op (sl_p (sl_varb rfl) (sl_p (sl_ofE (sv_eE (sn_lst (sc_p (sv_tup (sc_p sv_int (sc_p sv_int (sc_nil (si_tup (e := (eT2 eI eI).v) rfl rfl))))) (sc_nil (si_lst (f := List.map (eT2 eI eI).e) rfl rfl))))) rfl) so_cat)))) rfl) fun u20 => (sc_nil (si_fn (fnm_law_refused T) (r_law_refused T _ _ _ _)))))))) fun u21 => (sx_p (sv_some (sv_tup (sc_p (sv_eE (sn_lst (sc_p sv_bool (sc_p sv_bool (sc_p sv_bool (sc_nil (si_lst (f := List.map eB.e) rfl rfl))))))) (sc_p sv_int (sc_nil (si_tup (e := (eT2 (eL eB) eI).v) rfl rfl)))))) (so_eqD (E := (eO (eT2 (eL eB) eI))))))) fun _ => rfl))))))
noncomputable def xs_law_true (T : Tx K mg) : XS K := (.seq (.setN 6 (XN.lst .nil))
    (.seq (.for_ (.list (.call (fn_law_lists T) (fno_law_lists T) (.cons false (.bi Bi.len (.cons true (.var 1) .nil)) .nil))) (.name 7) (.post [7] (.ite (.and (.B (.call (fn_law_good T) (fno_law_good T) (.cons false (.var 0) (.cons false (.var 7) .nil)))) (.B (.bi Bi.all (.cons true (XN.e (XN.lc (.range1 (.cons false (.bi Bi.len (.cons true (.var 7) .nil)) .nil)) (.name 10) .yes (.orV (.op O2.isN (.op O2.ixL (.var 2) (.var 10)) .non) (.op O2.eqD (.op O2.ixL (.var 2) (.var 10)) (.op O2.ixL (.var 7) (.var 10)))) [10])) .nil))))
    (.app 6 (.tup (.cons false (.call (fn_law_worth T) (fno_law_worth T) (.cons false (.var 1) (.cons false (.var 7) .nil))) (.cons false (.var 7) .nil))))
    XS.nx)))
    (.seq (.ite (.not (.B (.call (fn_law_fit T) (fno_law_fit T) (.cons false (.var 0) (.cons true (.var 3) .nil)))))
    (.ret (.bool true))
    XS.nx)
    (.seq (.set 8 (.call (fn_law_bound T) (fno_law_bound T) (.cons false (.var 1) (.cons false (.var 0) (.cons false (.var 2) (.cons true (.var 3) .nil))))))
    (.seq (.ite (.test (.op O2.gt (.bi Bi.len (.cons true (XN.e (XN.lend 6 (XN.lc (.list (.var 6)) (.tup (.cons (.name 9) (.cons (.name 7) .nil))) (.test (.op O2.lt (.op O2.mul (.var 9) (.op O2.ixT (.var 8) (.int 1))) (.op O2.ixT (.var 8) (.int 0)))) (.int 1) [9, 7]))) .nil)) (.int 0)))
    (.ret (.bool false))
    XS.nx)
    (.seq (.ite (.and (.B (.call (fn_law_shows_none T) (fno_law_shows_none T) (.cons false (.var 1) (.cons false (.var 0) (.cons false (.var 2) (.cons true (.var 3) .nil)))))) (.test (.op O2.gt (.bi Bi.len (.cons true (.var 6) .nil)) (.int 0))))
    (.ret (.bool false))
    XS.nx)
    (.ret (.orV (.notV (.call (fn_law_closes T) (fno_law_closes T) (.cons false (.var 1) (.cons false (.var 0) (.cons false (.var 2) (.cons true (.var 3) (.cons false (.var 4) (.cons false (.var 5) .nil)))))))) (.op O2.eq (.bi Bi.len (.cons true (XN.e (XN.lend 6 (XN.lc (.list (.var 6)) (.name 7) (.test (.op O2.ltD (.var 7) (.tup (.cons false (.var 4) (.cons false (.var 5) .nil))))) (.int 1) [7]))) .nil)) (.int 0))))))))))
@[irreducible] noncomputable def fn_law_true (T : Tx K mg) : Fn := ⟨6, false, fun as => runX (xs_law_true T) false 5 as⟩
theorem fnf_law_true (T : Tx K mg) (as : List Av) : (fn_law_true T).f as = runX (xs_law_true T) false 5 as := by unfold fn_law_true; rfl
theorem fnm_law_true (T : Tx K mg) : (fn_law_true T).m = 6 := by unfold fn_law_true; rfl
theorem fno_law_true (T : Tx K mg) : (fn_law_true T).own = false := by unfold fn_law_true; rfl
@[irreducible] noncomputable def m_law_true (rows : (List ((List Int) × Str × Int))) (prices : (List Int)) (fixing : (List (Option Int))) (weights : (List (Int × Int))) (value : Int) (told : (List Int)) : Rs Bool :=
  ((Rs.ok ([] : List (Int × (List Int)))).bind fun under =>
  ((m_law_lists (lenI prices)).bind fun xs_ => (forR (fun (one : (List Int)) (under1 : (List (Int × (List Int)))) =>
  (((m_law_good rows one).bind fun c1 => if c1 = true then (((rng1C (lenI one)).bind fun xs_ => lcM (β := Bool) xs_ (fun (j : Int) => (Rs.ok true)) (fun (j : Int) => ((((ixC fixing j)).bind fun u2 => Rs.ok u2.isNone).bind fun c => if c = true then Rs.ok true else (((ixC fixing j)).bind fun u => (((ixC one j)).bind fun o_ => Rs.ok (some o_)).bind fun u1 => Rs.ok (decide (u = u1)))))).bind fun u3 => Rs.ok (u3.all id)) else Rs.ok false).bind fun c2 => if c2 = true then
  (((m_law_worth prices one).bind fun u4 => .ok (u4, one)).bind fun u_ => (pushC under1 u_).bind fun under2 =>
  (Rs.ok under2))
  else (Rs.ok under1))) xs_ under).bind fun (under1 : (List (Int × (List Int)))) =>
  (((m_law_fit rows weights).bind fun u_ => Rs.ok (!u_)).bind fun c7 => if c7 = true then
  (Rs.ok true)
  else ((m_law_bound prices rows fixing weights).bind fun bound =>
  ((((qu (lcM (β := Int) under1 (fun (x : (Int × (List Int))) => (((mulC x.1 bound.2)).bind fun u5 => Rs.ok (decide (u5 < bound.1)))) (fun (x : (Int × (List Int))) => (Rs.ok (1 : Int))))).bind fun u6 => Rs.ok (lenI u6)).bind fun u7 => Rs.ok (decide (u7 > 0))).bind fun c6 => if c6 = true then
  (Rs.ok false)
  else (((m_law_shows_none prices rows fixing weights).bind fun c3 => if c3 = true then (Rs.ok (decide ((lenI under1) > 0))) else Rs.ok false).bind fun c5 => if c5 = true then
  (Rs.ok false)
  else (((m_law_closes prices rows fixing weights value told).bind fun u_ => Rs.ok (!u_)).bind fun c4 => if c4 = true then Rs.ok true else (((qu (lcM (β := Int) under1 (fun (one1 : (Int × (List Int))) => (Rs.ok (OrdE.lt (E := (eT2 eI (eL eI))) one1 (value, told)))) (fun (one1 : (Int × (List Int))) => (Rs.ok (1 : Int))))).bind fun u8 => Rs.ok (lenI u8)).bind fun u9 => Rs.ok (decide (u9 = 0))))))))))
theorem r_law_true (T : Tx K mg) (rows : (List ((List Int) × Str × Int))) (prices : (List Int)) (fixing : (List (Option Int))) (weights : (List (Int × Int))) (value : Int) (told : (List Int)) : Si ((fn_law_true T).f [.v ((eL (eT3 (eL eI) eS eI)).v rows), .v ((eL eI).v prices), .v ((eL (eO eI)).v fixing), .l (List.map (eT2 eI eI).e weights), .v (eI.v value), .v ((eL eI).v told)]) (m_law_true rows prices fixing weights value told) eB.v := by
  rw [fnf_law_true]
  exact si_runX (show SS (xs_law_true T) [.v ((eL (eT3 (eL eI) eS eI)).v rows), .v ((eL eI).v prices), .v ((eL (eO eI)).v fixing), .bl (List.map (eT2 eI eI).e weights), .v (eI.v value), .v ((eL eI).v told), .x, .x, .x, .x, .x] (m_law_true rows prices fixing weights value told) (PF false eB.v) from by
    unfold xs_law_true m_law_true
    exact (ss_setNI (st1 := fun under => [.v ((eL (eT3 (eL eI) eS eI)).v rows), .v ((eL eI).v prices), .v ((eL (eO eI)).v fixing), .bl (List.map (eT2 eI eI).e weights), .v (eI.v value), .v ((eL eI).v told), .ol (List.map (eT2 eI (eL eI)).e under), .x, .x, .x, .x]) (sn_lst (sc_nil (si_lst (f := List.map (eT2 eI (eL eI)).e) rfl rfl))) (fun _ => rfl) rfl fun under =>
  (ss_forRI (F := (eL eI).e) (es := fun (under1 : (List (Int × (List Int)))) => [.v ((eL (eT3 (eL eI) eS eI)).v rows), .v ((eL eI).v prices), .v ((eL (eO eI)).v fixing), .bl (List.map (eT2 eI eI).e weights), .v (eI.v value), .v ((eL eI).v told), .ol (List.map (eT2 eI (eL eI)).e under1), .x, .x, .x, .x]) (s0 := under) (si_list (sw_ofE (sv_call (sc_p (sv_bi (sc_lp (sl_varv rfl) (sc_nil so_len))) (sc_nil (si_fn (fnm_law_lists T) (r_law_lists T _))))) rfl)) rfl (fun _ => rfl)
  (fun (one : (List Int)) (under1 : (List (Int × (List Int)))) => ⟨[.v ((eL (eT3 (eL eI) eS eI)).v rows), .v ((eL eI).v prices), .v ((eL (eO eI)).v fixing), .bl (List.map (eT2 eI eI).e weights), .v (eI.v value), .v ((eL eI).v told), .ol (List.map (eT2 eI (eL eI)).e under1), .v ((eL eI).v one), .x, .x, .x], rfl, rfl,
  (ss_post (ss_iteI (st_andI (st_B (sv_call (sc_p (sv_var rfl) (sc_p (sv_var rfl) (sc_nil (si_fn (fnm_law_good T) (r_law_good T _ _))))))) (st_B (sv_bi (sc_li (sl_ofE (sv_eE (sn_lcI (E := eB) (F := eI) (si_range1 (sc_p (sv_bi (sc_lp (sl_varv rfl) (sc_nil so_len))) (sc_nil so_rng1))) rfl rfl (fun (j : Int) => ⟨[.v ((eL (eT3 (eL eI) eS eI)).v rows), .v ((eL eI).v prices), .v ((eL (eO eI)).v fixing), .bl (List.map (eT2 eI eI).e weights), .v (eI.v value), .v ((eL eI).v told), .ol (List.map (eT2 eI (eL eI)).e under1), .v ((eL eI).v one), .x, .x, .v (eI.v j)], rfl, st_yes, (sv_orI (sv_op (sx_i (sv_op (sl_p (sl_varv rfl) (sx_p (sv_var rfl) so_ixL))) fun u2 => (sx_p sv_nonU so_isN))) (sv_op (sx_i (sv_op (sl_p (sl_varv rfl) (sx_p (sv_var rfl) so_ixL))) fun u => (sx_i (sv_someI (sv_op (sl_p (sl_varv rfl) (sx_p (sv_var rfl) so_ixL)))) fun u1 => (so_eqD (E := (eO eI)))))))⟩))) rfl) fun u3 => (sc_nil so_all)))))
  (ss_last (ss_appI (E := (eT2 eI (eL eI))) (st1 := fun under2 => [.v ((eL (eT3 (eL eI) eS eI)).v rows), .v ((eL eI).v prices), .v ((eL (eO eI)).v fixing), .bl (List.map (eT2 eI eI).e weights), .v (eI.v value), .v ((eL eI).v told), .ol (List.map (eT2 eI (eL eI)).e under2), .v ((eL eI).v one), .x, .x, .x]) rfl (sv_tup (sc_i (sv_call (sc_p (sv_var rfl) (sc_p (sv_var rfl) (sc_nil (si_fn (fnm_law_worth T) (r_law_worth T _ _)))))) fun u4 => (sc_p (sv_var rfl) (sc_nil (si_tup (e := (eT2 eI (eL eI)).v) rfl rfl))))) (fun _ => rfl) fun under2 =>
  (ss_nx (.inl rfl))))
  (ss_nx (.inl rfl))))⟩) fun (under1 : (List (Int × (List Int)))) =>
  (ss_iteXI (st_notI (st_B (sv_call (sc_p (sv_var rfl) (sc_lp (sl_varb rfl) (sc_nil (si_fn (fnm_law_fit T) (r_law_fit T _ _))))))))
  (ss_ret sv_bool ⟨rfl, rfl⟩)
  (ss_nxS (ss_setI (st1 := fun bound => [.v ((eL (eT3 (eL eI) eS eI)).v rows), .v ((eL eI).v prices), .v ((eL (eO eI)).v fixing), .bl (List.map (eT2 eI eI).e weights), .v (eI.v value), .v ((eL eI).v told), .ol (List.map (eT2 eI (eL eI)).e under1), .x, .v ((eT2 eI eI).v bound), .x, .x]) (sv_call (sc_p (sv_var rfl) (sc_p (sv_var rfl) (sc_p (sv_var rfl) (sc_lp (sl_varb rfl) (sc_nil (si_fn (fnm_law_bound T) (r_law_bound T _ _ _ _)))))))) (fun _ => rfl) fun bound =>
  (ss_iteXI (st_test (sv_op (sx_i (sv_bi (sc_li (sl_ofE (sv_eE (sn_lend rfl (sn_lc (E := eI) (F := (eT2 eI (eL eI))) (si_list (sw_varb rfl)) rfl rfl (fun (x : (Int × (List Int))) => ⟨[.v ((eL (eT3 (eL eI) eS eI)).v rows), .v ((eL eI).v prices), .v ((eL (eO eI)).v fixing), .bl (List.map (eT2 eI eI).e weights), .v (eI.v value), .v ((eL eI).v told), .bl (List.map (eT2 eI (eL eI)).e under1), .v ((eL eI).v x.2), .v ((eT2 eI eI).v bound), .v (eI.v x.1), .x], rfl, (st_test (sv_op (sx_i (sv_op (sx_p (sv_var rfl) (sx_p (sv_op (sx_p (sv_var rfl) (sx_p sv_int (so_ixT (E := eI) rfl)))) so_mul))) fun u5 => (sx_p (sv_op (sx_p (sv_var rfl) (sx_p sv_int (so_ixT (E := eI) rfl)))) so_lt)))), sv_int⟩)))) rfl) fun u6 => (sc_nil so_len))) fun u7 => (sx_p sv_int so_gt))))
  (ss_ret sv_bool ⟨rfl, rfl⟩)
  (ss_nxS (ss_iteXI (st_andI (st_B (sv_call (sc_p (sv_var rfl) (sc_p (sv_var rfl) (sc_p (sv_var rfl) (sc_lp (sl_varb rfl) (sc_nil (si_fn (fnm_law_shows_none T) (r_law_shows_none T _ _ _ _))))))))) (st_test (sv_op (sx_p (sv_bi (sc_lp (sl_varo rfl) (sc_nil so_len))) (sx_p sv_int so_gt)))))
  (ss_ret sv_bool ⟨rfl, rfl⟩)
  (ss_nxS (ss_retM (sv_orI (sv_notI (sv_call (sc_p (sv_var rfl) (sc_p (sv_var rfl) (sc_p (sv_var rfl) (sc_lp (sl_varb rfl) (sc_p (sv_var rfl) (sc_p (sv_var rfl) (sc_nil (si_fn (fnm_law_closes T) (r_law_closes T _ _ _ _ _ _))))))))))) (sv_op (sx_i (sv_bi (sc_li (sl_ofE (sv_eE (sn_lend rfl (sn_lc (E := eI) (F := (eT2 eI (eL eI))) (si_list (sw_varb rfl)) rfl rfl (fun (one1 : (Int × (List Int))) => ⟨[.v ((eL (eT3 (eL eI) eS eI)).v rows), .v ((eL eI).v prices), .v ((eL (eO eI)).v fixing), .bl (List.map (eT2 eI eI).e weights), .v (eI.v value), .v ((eL eI).v told), .bl (List.map (eT2 eI (eL eI)).e under1), .v ((eT2 eI (eL eI)).v one1), .v ((eT2 eI eI).v bound), .x, .x], rfl, (st_test (sv_op (sx_p (sv_var rfl) (sx_p (sv_tup (sc_p (sv_var rfl) (sc_p (sv_var rfl) (sc_nil (si_tup (e := (eT2 eI (eL eI)).v) rfl rfl))))) (so_ltD (E := (eT2 eI (eL eI)))))))), sv_int⟩)))) rfl) fun u8 => (sc_nil so_len))) fun u9 => (sx_p sv_int so_eqI)))) fun _ => rfl)))))))))))
noncomputable def xs_law (T : Tx K mg) : XS K := (.seq (.set 1 (.call (fn_law_numbers T) (fno_law_numbers T) (.cons false (.var 0) (.cons false (.int 260) .nil))))
    (.seq (.asg (.tup (.cons (.name 2) (.cons (.name 3) (.cons (.name 4) .nil)))) (.call (fn_law_program T) (fno_law_program T) (.cons false (.var 1) (.cons false (.int 10) (.cons false (.int 6) (.cons false (.int 5) .nil))))))
    (.seq (.set 5 (.make T.c_Program (fn_Program___init__ T) (.cons false (.var 3) (.cons false (.var 4) .nil))))
    (.seq (.for_ (.range1 (.cons false (.int 6) .nil)) (.name 6) (.post [6, 7, 9, 11, 12, 13, 14, 15] (.pre [8, 10] (.seq (.set 7 (.op O2.add (.int 100) (.op O2.mul (.int 8) (.var 6))))
    (.seq (.set 8 (XN.e (XN.lc (.range1 (.cons false (.var 2) .nil)) (.name 16) .yes (.op O2.ixL (XN.e (XN.lst (.cons false (.int 0) (.cons false (.int 1) (.cons false .non (.cons false .non .nil)))))) (.op O2.mod (.bi Bi.int (.cons false (.op O2.ixL (.var 1) (.op O2.add (.var 7) (.var 16))) .nil)) (.int 4))) [16])))
    (.seq (.setN 10 (XN.lc (.range1 (.cons false (.bi Bi.len (.cons true (.var 4) .nil)) .nil)) (.name 9) .yes (.call (fn_law_some T) (fno_law_some T) (.cons false (.var 1) (.cons false (.int 160) (.cons false (.op O2.add (.op O2.mul (.int 3) (.var 6)) (.var 9)) .nil)))) [9]))
    (.seq (.ite (.test (.op O2.gt (.op O2.mod (.var 6) (.int 3)) (.int 0)))
    (.post [9, 11] (.for_ (.range1 (.cons false (.bi Bi.len (.cons true (.var 4) .nil)) .nil)) (.name 9) (.post [9, 11] (.seq (.set 11 (.op O2.ixL (XN.e (XN.lst (.cons false (.int 1) (.cons false (.neg (.int 1)) .nil)))) (.bi Bi.int (.cons false (.op O2.eq (.op O2.ixT (.op O2.ixL (.var 4) (.var 9)) (.int 1)) (.str (PySem.Str.ofString "most"))) .nil))))
    (.seti 10 (.var 9) (.tup (.cons false (.op O2.mul (.var 11) (.bi Bi.abs (.cons false (.op O2.ixT (.op O2.ixL (.var 10) (.var 9)) (.int 0)) .nil))) (.cons false (.op O2.ixT (.op O2.ixL (.var 10) (.var 9)) (.int 1)) .nil))))))))
    (.post [9, 11] XS.nx))
    (.seq (.set 12 (XN.e (XN.lc (.range1 (.cons false (.var 2) .nil)) (.name 16) .yes (.op O2.mod (.bi Bi.int (.cons false (.op O2.ixL (.var 1) (.op O2.add (.op O2.add (.int 200) (.var 6)) (.var 16))) .nil)) (.int 2)) [16])))
    (.seq (.set 13 (.op O2.sub (.op O2.mod (.bi Bi.int (.cons false (.op O2.ixL (.var 1) (.op O2.add (.int 220) (.var 6))) .nil)) (.int 15)) (.int 5)))
    (.seq (.frz 10 (.set 14 (.bi Bi.repr (.cons false (.tup (.cons false (.var 8) (.cons false (.var 10) (.cons false (.var 12) .nil)))) .nil))))
    (.seq (.ite (.test (.op O2.neD (.call (fn_case_bound T) (fno_case_bound T) (.cons false (.var 5) (.cons false (.var 8) (.cons true (.var 10) .nil)))) (.call (fn_law_bound T) (fno_law_bound T) (.cons false (.var 3) (.cons false (.var 4) (.cons false (.var 8) (.cons true (.var 10) .nil)))))))
    (.ret (.bool false))
    XS.nx)
    (.seq (.ite (.test (.op O2.neD (.call (fn_shows_none T) (fno_shows_none T) (.cons false (.var 5) (.cons false (.var 8) (.cons true (.var 10) .nil)))) (.call (fn_law_shows_none T) (fno_law_shows_none T) (.cons false (.var 3) (.cons false (.var 4) (.cons false (.var 8) (.cons true (.var 10) .nil)))))))
    (.ret (.bool false))
    XS.nx)
    (.seq (.ite (.test (.op O2.neD (.call (fn_closes T) (fno_closes T) (.cons false (.var 5) (.cons false (.var 8) (.cons true (.var 10) (.cons false (.var 13) (.cons false (.var 12) .nil)))))) (.call (fn_law_closes T) (fno_law_closes T) (.cons false (.var 3) (.cons false (.var 4) (.cons false (.var 8) (.cons true (.var 10) (.cons false (.var 13) (.cons false (.var 12) .nil)))))))))
    (.ret (.bool false))
    XS.nx)
    (.seq (.set 15 (XN.e (XN.op O2N.cat (.var 10) (XN.e (XN.lst (.cons false (.tup (.cons false (.int 1) (.cons false (.int 2) .nil))) .nil))))))
    (.seq (.ite (.or (.test (.op O2.notB (.call (fn_shows_none T) (fno_shows_none T) (.cons false (.var 5) (.cons false (.var 8) (.cons true (.var 15) .nil)))) (.bool false))) (.test (.op O2.notB (.call (fn_closes T) (fno_closes T) (.cons false (.var 5) (.cons false (.var 8) (.cons true (.var 15) (.cons false (.var 13) (.cons false (.var 12) .nil)))))) (.bool false))))
    (.ret (.bool false))
    XS.nx)
    (.ite (.or (.test (.op O2.ne (.bi Bi.repr (.cons false (.tup (.cons false (.var 8) (.cons false (.var 10) (.cons false (.var 12) .nil)))) .nil)) (.var 14))) (.not (.B (.call (fn_law_true T) (fno_law_true T) (.cons false (.var 4) (.cons false (.var 3) (.cons false (.var 8) (.cons true (.var 10) (.cons false (.var 13) (.cons false (.var 12) .nil))))))))))
    (.ret (.bool false))
    XS.nx))))))))))))))))
    (.ret (.call (fn_law_refusals T) (fno_law_refusals T) (.cons false (XN.e (XN.sl (.var 1) (.some (.int 230)) (.some (.int 240)))) (.cons false (.var 5) (.cons false (.var 8) (.cons true (.var 10) .nil))))))))))
@[irreducible] noncomputable def fn_law (T : Tx K mg) : Fn := ⟨1, false, fun as => runX (xs_law T) false 16 as⟩
theorem fnf_law (T : Tx K mg) (as : List Av) : (fn_law T).f as = runX (xs_law T) false 16 as := by unfold fn_law; rfl
theorem fnm_law (T : Tx K mg) : (fn_law T).m = 1 := by unfold fn_law; rfl
theorem fno_law (T : Tx K mg) : (fn_law T).own = false := by unfold fn_law; rfl
@[irreducible] noncomputable def m_law (T : Tx K mg) (script : (List Int)) : Rs Bool :=
  ((m_law_numbers script 260).bind fun numbers =>
  ((m_law_program numbers 10 6 5).bind fun p =>
  ((m_Program___init__ T p.2.1 p.2.2).bind fun program =>
  (bindJ (forJ (fun (turn : Int) (s : (Option (List (Option Int))) × (Option (List (Int × Int)))) =>
  ((Rs.ok (100 + (8 * turn))).bind fun at' =>
  (((rng1C p.1).bind fun xs_ => lcM (β := (Option Int)) xs_ (fun (j : Int) => (Rs.ok true)) (fun (j : Int) => (((((ixC numbers (at' + j))).bind fun u => Rs.ok u).bind fun u1 => Rs.ok (u1 % 4)).bind fun u2 => (ixC ([(some 0), (some 1), none, none] : List (Option Int)) u2)))).bind fun fixing =>
  (((rng1C (lenI p.2.2)).bind fun xs_ => lcM (β := (Int × Int)) xs_ (fun (k : Int) => (Rs.ok true)) (fun (k : Int) => (m_law_some numbers 160 ((3 * turn) + k)))).bind fun weights =>
  (((if (decide ((turn % 3) > 0)) = true then
  ((rng1C (lenI p.2.2)).bind fun xs_ => (forR (fun (k1 : Int) (weights1 : (List (Int × Int))) =>
  (((((((ixC p.2.2 k1)).bind fun u3 => Rs.ok u3.2.1).bind fun u4 => Rs.ok (decide (u4 = (PySem.Str.ofString "most")))).bind fun u5 => Rs.ok (bInt u5)).bind fun u6 => (ixC ([1, (-1)] : List Int) u6)).bind fun sign =>
  (((((((ixC weights1 k1)).bind fun u7 => Rs.ok u7.1).bind fun u8 => Rs.ok (iabs u8)).bind fun u9 => (mulC sign u9)).bind fun u11 => (((ixC weights1 k1)).bind fun u10 => Rs.ok u10.2).bind fun u12 => .ok (u11, u12)).bind fun u_ => (qu (Rs.ok k1)).bind fun z_ => (setC weights1 z_ u_).bind fun weights2 =>
  (Rs.ok weights2)))) xs_ weights).bind fun (weights1 : (List (Int × Int))) =>
  (Rs.ok weights1))
  else (Rs.ok weights))).bind fun (weights3 : (List (Int × Int))) =>
  (((rng1C p.1).bind fun xs_ => lcM (β := Int) xs_ (fun (j1 : Int) => (Rs.ok true)) (fun (j1 : Int) => ((((ixC numbers ((200 + turn) + j1))).bind fun u13 => Rs.ok u13).bind fun u14 => Rs.ok (u14 % 2)))).bind fun told =>
  ((((((ixC numbers (220 + turn))).bind fun u15 => Rs.ok u15).bind fun u16 => Rs.ok (u16 % 15)).bind fun u17 => Rs.ok (u17 - 5)).bind fun value =>
  (((reprC (eT3 (eL (eO eI)) (eL (eT2 eI eI)) (eL eI)) (fixing, weights3, told))).bind fun kept =>
  (((m_case_bound T program fixing weights3).bind fun u18 => (m_law_bound p.2.1 p.2.2 fixing weights3).bind fun u19 => Rs.ok (!decide (u18 = u19))).bind fun c6 => if c6 = true then
  (Rs.ok (LO.ex false))
  else (((m_shows_none T program fixing weights3).bind fun u20 => (m_law_shows_none p.2.1 p.2.2 fixing weights3).bind fun u21 => Rs.ok (!decide (u20 = u21))).bind fun c5 => if c5 = true then
  (Rs.ok (LO.ex false))
  else (((m_closes T program fixing weights3 value told).bind fun u22 => (m_law_closes p.2.1 p.2.2 fixing weights3 value told).bind fun u23 => Rs.ok (!decide (u22 = u23))).bind fun c4 => if c4 = true then
  (Rs.ok (LO.ex false))
  else (((catC weights3 ([(1, 2)] : List (Int × Int)))).bind fun long =>
  ((((m_shows_none T program fixing long).bind fun u25 => Rs.ok (!decide (u25 = false))).bind fun c => if c = true then Rs.ok true else ((m_closes T program fixing long value told).bind fun u24 => Rs.ok (!decide (u24 = false)))).bind fun c3 => if c3 = true then
  (Rs.ok (LO.ex false))
  else (((((reprC (eT3 (eL (eO eI)) (eL (eT2 eI eI)) (eL eI)) (fixing, weights3, told))).bind fun u26 => Rs.ok (!decide (u26 = kept))).bind fun c1 => if c1 = true then Rs.ok true else ((m_law_true p.2.2 p.2.1 fixing weights3 value told).bind fun u_ => Rs.ok (!u_))).bind fun c2 => if c2 = true then
  (Rs.ok (LO.ex false))
  else (Rs.ok (LO.nx ((some fixing), (some weights3)))))))))))))))))) (rngL 0 6) (none, none)) fun (s : (Option (List (Option Int))) × (Option (List (Int × Int)))) =>
  ((theO s.1).bind fun fixing1 =>
  ((theO s.2).bind fun weights4 =>
  (m_law_refusals T (cutT numbers (some 230) (some 240)) program fixing1 weights4)))))))
theorem r_law (T : Tx K mg) (script : (List Int)) : Si ((fn_law T).f [.v (Vl.s script)]) (m_law T script) eB.v := by
  rw [fnf_law]
  exact si_runX (show SS (xs_law T) [.v (Vl.s script), .x, .x, .x, .x, .x, .x, .x, .x, .x, .x, .x, .x, .x, .x, .x, .x] (m_law T script) (PF false eB.v) from by
    unfold xs_law m_law
    exact (ss_setI (st1 := fun numbers => [.v (Vl.s script), .v ((eL eI).v numbers), .x, .x, .x, .x, .x, .x, .x, .x, .x, .x, .x, .x, .x, .x, .x]) (sv_call (sc_p (sv_var rfl) (sc_p sv_int (sc_nil (si_fn (fnm_law_numbers T) (r_law_numbers T _ _)))))) (fun _ => rfl) fun numbers =>
  (ss_asgI (st1 := fun p => [.v (Vl.s script), .v ((eL eI).v numbers), .v (eI.v p.1), .v ((eL eI).v p.2.1), .v ((eL (eT3 (eL eI) eS eI)).v p.2.2), .x, .x, .x, .x, .x, .x, .x, .x, .x, .x, .x, .x]) (sv_call (sc_p (sv_var rfl) (sc_p sv_int (sc_p sv_int (sc_p sv_int (sc_nil (si_fn (fnm_law_program T) (r_law_program T _ _ _ _)))))))) (fun _ => rfl) (fun _ => rfl) (fun _ => rfl) fun p =>
  (ss_setI (st1 := fun program => [.v (Vl.s script), .v ((eL eI).v numbers), .v (eI.v p.1), .v ((eL eI).v p.2.1), .v ((eL (eT3 (eL eI) eS eI)).v p.2.2), .v ((vo_Program T) program), .x, .x, .x, .x, .x, .x, .x, .x, .x, .x, .x]) (sv_make (sc_p (sv_var rfl) (sc_p (sv_var rfl) (sc_nil (si_make (fnm_Program___init__ T) (r_Program___init__ T _ _)))))) (fun _ => rfl) fun program =>
  (ss_forJ (F := eI.e) (es := fun (s : (Option (List (Option Int))) × (Option (List (Int × Int)))) => [.v (Vl.s script), .v ((eL eI).v numbers), .v (eI.v p.1), .v ((eL eI).v p.2.1), .v ((eL (eT3 (eL eI) eS eI)).v p.2.2), .v ((vo_Program T) program), .x, .x, (ox (eL (eO eI)).v s.1), .x, (ox (eL (eT2 eI eI)).v s.2), .x, .x, .x, .x, .x, .x]) (s0 := (none, none)) (si_range1 (sc_p sv_int (sc_nil (so_rng1p (by decide))))) rfl (fun _ => rfl)
  (fun (turn : Int) (s : (Option (List (Option Int))) × (Option (List (Int × Int)))) => ⟨[.v (Vl.s script), .v ((eL eI).v numbers), .v (eI.v p.1), .v ((eL eI).v p.2.1), .v ((eL (eT3 (eL eI) eS eI)).v p.2.2), .v ((vo_Program T) program), .v (eI.v turn), .x, (ox (eL (eO eI)).v s.1), .x, (ox (eL (eT2 eI eI)).v s.2), .x, .x, .x, .x, .x, .x], rfl, rfl,
  (ss_post (ss_pre (st1 := [.v (Vl.s script), .v ((eL eI).v numbers), .v (eI.v p.1), .v ((eL eI).v p.2.1), .v ((eL (eT3 (eL eI) eS eI)).v p.2.2), .v ((vo_Program T) program), .v (eI.v turn), .x, .x, .x, .x, .x, .x, .x, .x, .x, .x]) rfl (ss_setI (st1 := fun at' => [.v (Vl.s script), .v ((eL eI).v numbers), .v (eI.v p.1), .v ((eL eI).v p.2.1), .v ((eL (eT3 (eL eI) eS eI)).v p.2.2), .v ((vo_Program T) program), .v (eI.v turn), .v (eI.v at'), .x, .x, .x, .x, .x, .x, .x, .x, .x]) (sv_op (sx_p sv_int (sx_p (sv_op (sx_p sv_int (sx_p (sv_var rfl) (so_mulp (mul_litl (by decide)))))) so_add))) (fun _ => rfl) fun at' =>
  (ss_setI (st1 := fun fixing => [.v (Vl.s script), .v ((eL eI).v numbers), .v (eI.v p.1), .v ((eL eI).v p.2.1), .v ((eL (eT3 (eL eI) eS eI)).v p.2.2), .v ((vo_Program T) program), .v (eI.v turn), .v (eI.v at'), .v ((eL (eO eI)).v fixing), .x, .x, .x, .x, .x, .x, .x, .x]) (sv_eE (sn_lcI (E := (eO eI)) (F := eI) (si_range1 (sc_p (sv_var rfl) (sc_nil so_rng1))) rfl rfl (fun (j : Int) => ⟨[.v (Vl.s script), .v ((eL eI).v numbers), .v (eI.v p.1), .v ((eL eI).v p.2.1), .v ((eL (eT3 (eL eI) eS eI)).v p.2.2), .v ((vo_Program T) program), .v (eI.v turn), .v (eI.v at'), .x, .x, .x, .x, .x, .x, .x, .x, .v (eI.v j)], rfl, st_yes, (sv_op (sl_p (sl_ofE (sv_eE (sn_lst (sc_p (sv_some sv_int) (sc_p (sv_some sv_int) (sc_p sv_non (sc_p sv_non (sc_nil (si_lst (f := List.map (eO eI).e) rfl rfl)))))))) rfl) (sx_i (sv_op (sx_i (sv_bi (sc_i (sv_op (sl_p (sl_varv rfl) (sx_p (sv_op (sx_p (sv_var rfl) (sx_p (sv_var rfl) so_add))) so_ixL))) fun u => (sc_nil so_int))) fun u1 => (sx_p sv_int (so_modp (by decide))))) fun u2 => so_ixL)))⟩))) (fun _ => rfl) fun fixing =>
  (ss_setNI (st1 := fun weights => [.v (Vl.s script), .v ((eL eI).v numbers), .v (eI.v p.1), .v ((eL eI).v p.2.1), .v ((eL (eT3 (eL eI) eS eI)).v p.2.2), .v ((vo_Program T) program), .v (eI.v turn), .v (eI.v at'), .v ((eL (eO eI)).v fixing), .x, .ol (List.map (eT2 eI eI).e weights), .x, .x, .x, .x, .x, .x]) (sn_lcI (E := (eT2 eI eI)) (F := eI) (si_range1 (sc_p (sv_bi (sc_lp (sl_varv rfl) (sc_nil so_len))) (sc_nil so_rng1))) rfl rfl (fun (k : Int) => ⟨[.v (Vl.s script), .v ((eL eI).v numbers), .v (eI.v p.1), .v ((eL eI).v p.2.1), .v ((eL (eT3 (eL eI) eS eI)).v p.2.2), .v ((vo_Program T) program), .v (eI.v turn), .v (eI.v at'), .v ((eL (eO eI)).v fixing), .v (eI.v k), .x, .x, .x, .x, .x, .x, .x], rfl, st_yes, (sv_call (sc_p (sv_var rfl) (sc_p sv_int (sc_p (sv_op (sx_p (sv_op (sx_p sv_int (sx_p (sv_var rfl) (so_mulp (mul_litl (by decide)))))) (sx_p (sv_var rfl) so_add))) (sc_nil (si_fn (fnm_law_some T) (r_law_some T _ _ _)))))))⟩)) (fun _ => rfl) rfl fun weights =>
  (ss_seq (es := fun (weights3 : (List (Int × Int))) => [.v (Vl.s script), .v ((eL eI).v numbers), .v (eI.v p.1), .v ((eL eI).v p.2.1), .v ((eL (eT3 (eL eI) eS eI)).v p.2.2), .v ((vo_Program T) program), .v (eI.v turn), .v (eI.v at'), .v ((eL (eO eI)).v fixing), .x, .ol (List.map (eT2 eI eI).e weights3), .x, .x, .x, .x, .x, .x]) (ss_ite (st_test (sv_op (sx_p (sv_op (sx_p (sv_var rfl) (sx_p sv_int (so_modp (by decide))))) (sx_p sv_int so_gt))))
  (ss_post (ss_last (ss_forRI (F := eI.e) (es := fun (weights1 : (List (Int × Int))) => [.v (Vl.s script), .v ((eL eI).v numbers), .v (eI.v p.1), .v ((eL eI).v p.2.1), .v ((eL (eT3 (eL eI) eS eI)).v p.2.2), .v ((vo_Program T) program), .v (eI.v turn), .v (eI.v at'), .v ((eL (eO eI)).v fixing), .x, .ol (List.map (eT2 eI eI).e weights1), .x, .x, .x, .x, .x, .x]) (s0 := weights) (si_range1 (sc_p (sv_bi (sc_lp (sl_varv rfl) (sc_nil so_len))) (sc_nil so_rng1))) rfl (fun _ => rfl)
  (fun (k1 : Int) (weights1 : (List (Int × Int))) => ⟨[.v (Vl.s script), .v ((eL eI).v numbers), .v (eI.v p.1), .v ((eL eI).v p.2.1), .v ((eL (eT3 (eL eI) eS eI)).v p.2.2), .v ((vo_Program T) program), .v (eI.v turn), .v (eI.v at'), .v ((eL (eO eI)).v fixing), .v (eI.v k1), .ol (List.map (eT2 eI eI).e weights1), .x, .x, .x, .x, .x, .x], rfl, rfl,
  (ss_post (ss_setI (st1 := fun sign => [.v (Vl.s script), .v ((eL eI).v numbers), .v (eI.v p.1), .v ((eL eI).v p.2.1), .v ((eL (eT3 (eL eI) eS eI)).v p.2.2), .v ((vo_Program T) program), .v (eI.v turn), .v (eI.v at'), .v ((eL (eO eI)).v fixing), .v (eI.v k1), .ol (List.map (eT2 eI eI).e weights1), .v (eI.v sign), .x, .x, .x, .x, .x]) (sv_op (sl_p (sl_ofE (sv_eE (sn_lst (sc_p sv_int (sc_p (sv_neg sv_int) (sc_nil (si_lst (f := List.map eI.e) rfl rfl)))))) rfl) (sx_i (sv_bi (sc_i (sv_op (sx_i (sv_op (sx_i (sv_op (sl_p (sl_varv rfl) (sx_p (sv_var rfl) so_ixL))) fun u3 => (sx_p sv_int (so_ixT (E := eS) rfl)))) fun u4 => (sx_p sv_str so_eqS))) fun u5 => (sc_nil so_intB))) fun u6 => so_ixL))) (fun _ => rfl) fun sign =>
  (ss_last (ss_setiI (E := (eT2 eI eI)) (st1 := fun weights2 => [.v (Vl.s script), .v ((eL eI).v numbers), .v (eI.v p.1), .v ((eL eI).v p.2.1), .v ((eL (eT3 (eL eI) eS eI)).v p.2.2), .v ((vo_Program T) program), .v (eI.v turn), .v (eI.v at'), .v ((eL (eO eI)).v fixing), .v (eI.v k1), .ol (List.map (eT2 eI eI).e weights2), .v (eI.v sign), .x, .x, .x, .x, .x]) rfl (sv_tup (sc_i (sv_op (sx_p (sv_var rfl) (sx_i (sv_bi (sc_i (sv_op (sx_i (sv_op (sl_p (sl_varo rfl) (sx_p (sv_var rfl) so_ixL))) fun u7 => (sx_p sv_int (so_ixT (E := eI) rfl)))) fun u8 => (sc_nil so_abs))) fun u9 => so_mul))) fun u11 => (sc_i (sv_op (sx_i (sv_op (sl_p (sl_varo rfl) (sx_p (sv_var rfl) so_ixL))) fun u10 => (sx_p sv_int (so_ixT (E := eI) rfl)))) fun u12 => (sc_nil (si_tup (e := (eT2 eI eI).v) rfl rfl))))) (sv_var rfl) (fun _ => rfl) fun weights2 =>
  (ss_nx (.inl rfl))))))⟩) fun (weights1 : (List (Int × Int))) =>
  (ss_nx rfl))))
  (ss_post (ss_nx rfl))) (fun _ => rfl) fun weights3 =>
  (ss_setI (st1 := fun told => [.v (Vl.s script), .v ((eL eI).v numbers), .v (eI.v p.1), .v ((eL eI).v p.2.1), .v ((eL (eT3 (eL eI) eS eI)).v p.2.2), .v ((vo_Program T) program), .v (eI.v turn), .v (eI.v at'), .v ((eL (eO eI)).v fixing), .x, .ol (List.map (eT2 eI eI).e weights3), .x, .v ((eL eI).v told), .x, .x, .x, .x]) (sv_eE (sn_lcI (E := eI) (F := eI) (si_range1 (sc_p (sv_var rfl) (sc_nil so_rng1))) rfl rfl (fun (j1 : Int) => ⟨[.v (Vl.s script), .v ((eL eI).v numbers), .v (eI.v p.1), .v ((eL eI).v p.2.1), .v ((eL (eT3 (eL eI) eS eI)).v p.2.2), .v ((vo_Program T) program), .v (eI.v turn), .v (eI.v at'), .v ((eL (eO eI)).v fixing), .x, .ol (List.map (eT2 eI eI).e weights3), .x, .x, .x, .x, .x, .v (eI.v j1)], rfl, st_yes, (sv_op (sx_i (sv_bi (sc_i (sv_op (sl_p (sl_varv rfl) (sx_p (sv_op (sx_p (sv_op (sx_p sv_int (sx_p (sv_var rfl) so_add))) (sx_p (sv_var rfl) so_add))) so_ixL))) fun u13 => (sc_nil so_int))) fun u14 => (sx_p sv_int (so_modp (by decide)))))⟩))) (fun _ => rfl) fun told =>
  (ss_setI (st1 := fun value => [.v (Vl.s script), .v ((eL eI).v numbers), .v (eI.v p.1), .v ((eL eI).v p.2.1), .v ((eL (eT3 (eL eI) eS eI)).v p.2.2), .v ((vo_Program T) program), .v (eI.v turn), .v (eI.v at'), .v ((eL (eO eI)).v fixing), .x, .ol (List.map (eT2 eI eI).e weights3), .x, .v ((eL eI).v told), .v (eI.v value), .x, .x, .x]) (sv_op (sx_i (sv_op (sx_i (sv_bi (sc_i (sv_op (sl_p (sl_varv rfl) (sx_p (sv_op (sx_p sv_int (sx_p (sv_var rfl) so_add))) so_ixL))) fun u15 => (sc_nil so_int))) fun u16 => (sx_p sv_int (so_modp (by decide))))) fun u17 => (sx_p sv_int so_sub))) (fun _ => rfl) fun value =>
  (ss_frzS (st1 := [.v (Vl.s script), .v ((eL eI).v numbers), .v (eI.v p.1), .v ((eL eI).v p.2.1), .v ((eL (eT3 (eL eI) eS eI)).v p.2.2), .v ((vo_Program T) program), .v (eI.v turn), .v (eI.v at'), .v ((eL (eO eI)).v fixing), .x, .v ((eL (eT2 eI eI)).v weights3), .x, .v ((eL eI).v told), .v (eI.v value), .x, .x, .x]) rfl rfl (ss_setI (st1 := fun kept => [.v (Vl.s script), .v ((eL eI).v numbers), .v (eI.v p.1), .v ((eL eI).v p.2.1), .v ((eL (eT3 (eL eI) eS eI)).v p.2.2), .v ((vo_Program T) program), .v (eI.v turn), .v (eI.v at'), .v ((eL (eO eI)).v fixing), .x, .v ((eL (eT2 eI eI)).v weights3), .x, .v ((eL eI).v told), .v (eI.v value), .v (eS.v kept), .x, .x]) (sv_bi (sc_p (sv_tup (sc_p (sv_var rfl) (sc_p (sv_var rfl) (sc_p (sv_var rfl) (sc_nil (si_tup (e := (eT3 (eL (eO eI)) (eL (eT2 eI eI)) (eL eI)).v) rfl rfl)))))) (sc_nil so_repr))) (fun _ => rfl) fun kept =>
  (ss_iteXI (st_test (sv_op (sx_i (sv_call (sc_p (sv_var rfl) (sc_p (sv_var rfl) (sc_lp (sl_varv rfl) (sc_nil (si_fn (fnm_case_bound T) (r_case_bound T _ _ _))))))) fun u18 => (sx_i (sv_call (sc_p (sv_var rfl) (sc_p (sv_var rfl) (sc_p (sv_var rfl) (sc_lp (sl_varv rfl) (sc_nil (si_fn (fnm_law_bound T) (r_law_bound T _ _ _ _)))))))) fun u19 => (so_neD (E := (eT2 eI eI)))))))
  (ss_ret sv_bool ⟨⟨rfl, rfl⟩, rfl⟩)
  (ss_nxS (ss_iteXI (st_test (sv_op (sx_i (sv_call (sc_p (sv_var rfl) (sc_p (sv_var rfl) (sc_lp (sl_varv rfl) (sc_nil (si_fn (fnm_shows_none T) (r_shows_none T _ _ _))))))) fun u20 => (sx_i (sv_call (sc_p (sv_var rfl) (sc_p (sv_var rfl) (sc_p (sv_var rfl) (sc_lp (sl_varv rfl) (sc_nil (si_fn (fnm_law_shows_none T) (r_law_shows_none T _ _ _ _)))))))) fun u21 => (so_neD (E := eB))))))
  (ss_ret sv_bool ⟨⟨rfl, rfl⟩, rfl⟩)
  (ss_nxS (ss_iteXI (st_test (sv_op (sx_i (sv_call (sc_p (sv_var rfl) (sc_p (sv_var rfl) (sc_lp (sl_varv rfl) (sc_p (sv_var rfl) (sc_p (sv_var rfl) (sc_nil (si_fn (fnm_closes T) (r_closes T _ _ _ _ _))))))))) fun u22 => (sx_i (sv_call (sc_p (sv_var rfl) (sc_p (sv_var rfl) (sc_p (sv_var rfl) (sc_lp (sl_varv rfl) (sc_p (sv_var rfl) (sc_p (sv_var rfl) (sc_nil (si_fn (fnm_law_closes T) (r_law_closes T _ _ _ _ _ _)))))))))) fun u23 => (so_neD (E := eB))))))
  (ss_ret sv_bool ⟨⟨rfl, rfl⟩, rfl⟩)
  (ss_nxS (ss_setI (st1 := fun long => [.v (Vl.s script), .v ((eL eI).v numbers), .v (eI.v p.1), .v ((eL eI).v p.2.1), .v ((eL (eT3 (eL eI) eS eI)).v p.2.2), .v ((vo_Program T) program), .v (eI.v turn), .v (eI.v at'), .v ((eL (eO eI)).v fixing), .x, .v ((eL (eT2 eI eI)).v weights3), .x, .v ((eL eI).v told), .v (eI.v value), .v (eS.v kept), .v ((eL (eT2 eI eI)).v long), .x]) (sv_eE (sn_op (sl_p (sl_varv rfl) (sl_p (sl_ofE (sv_eE (sn_lst (sc_p (sv_tup (sc_p sv_int (sc_p sv_int (sc_nil (si_tup (e := (eT2 eI eI).v) rfl rfl))))) (sc_nil (si_lst (f := List.map (eT2 eI eI).e) rfl rfl))))) rfl) so_cat)))) (fun _ => rfl) fun long =>
  (ss_iteXI (st_orI (st_test (sv_op (sx_i (sv_call (sc_p (sv_var rfl) (sc_p (sv_var rfl) (sc_lp (sl_varv rfl) (sc_nil (si_fn (fnm_shows_none T) (r_shows_none T _ _ _))))))) fun u25 => (sx_p sv_bool so_notB)))) (st_test (sv_op (sx_i (sv_call (sc_p (sv_var rfl) (sc_p (sv_var rfl) (sc_lp (sl_varv rfl) (sc_p (sv_var rfl) (sc_p (sv_var rfl) (sc_nil (si_fn (fnm_closes T) (r_closes T _ _ _ _ _))))))))) fun u24 => (sx_p sv_bool so_notB)))))
  (ss_ret sv_bool ⟨⟨rfl, rfl⟩, rfl⟩)
  (ss_nxS (ss_iteI (st_orI (st_test (sv_op (sx_i (sv_bi (sc_p (sv_tup (sc_p (sv_var rfl) (sc_p (sv_var rfl) (sc_p (sv_var rfl) (sc_nil (si_tup (e := (eT3 (eL (eO eI)) (eL (eT2 eI eI)) (eL eI)).v) rfl rfl)))))) (sc_nil so_repr))) fun u26 => (sx_p (sv_var rfl) so_neS)))) (st_notI (st_B (sv_call (sc_p (sv_var rfl) (sc_p (sv_var rfl) (sc_p (sv_var rfl) (sc_lp (sl_varv rfl) (sc_p (sv_var rfl) (sc_p (sv_var rfl) (sc_nil (si_fn (fnm_law_true T) (r_law_true T _ _ _ _ _ _)))))))))))))
  (ss_ret sv_bool ⟨rfl, rfl⟩)
  (ss_nx (.inl rfl))))))))))))))))))))))⟩) fun (s : (Option (List (Option Int))) × (Option (List (Int × Int)))) =>
  (ss_theO (st := fun (o_ : Option (List (Option Int))) => [.v (Vl.s script), .v ((eL eI).v numbers), .v (eI.v p.1), .v ((eL eI).v p.2.1), .v ((eL (eT3 (eL eI) eS eI)).v p.2.2), .v ((vo_Program T) program), .x, .x, (ox (eL (eO eI)).v o_), .x, (ox (eL (eT2 eI eI)).v s.2), .x, .x, .x, .x, .x, .x]) fun fixing1 =>
  (ss_theO (st := fun (o_ : Option (List (Int × Int))) => [.v (Vl.s script), .v ((eL eI).v numbers), .v (eI.v p.1), .v ((eL eI).v p.2.1), .v ((eL (eT3 (eL eI) eS eI)).v p.2.2), .v ((vo_Program T) program), .x, .x, .v ((eL (eO eI)).v fixing1), .x, (ox (eL (eT2 eI eI)).v o_), .x, .x, .x, .x, .x, .x]) fun weights4 =>
  (ss_retM (sv_call (sc_p (sv_eE (sn_sl (sl_varv rfl) (so_some sv_int) (so_some sv_int))) (sc_p (sv_var rfl) (sc_p (sv_var rfl) (sc_lp (sl_varv rfl) (sc_nil (si_fn (fnm_law_refusals T) (r_law_refusals T _ _ _ _)))))))) fun _ => rfl))))))))
end
end Q

set_option Elab.async false
set_option linter.all false
set_option maxRecDepth 100000
set_option maxHeartbeats 4000000
namespace Q
open PySem PySem.Spec PyProof.Rows L2 Z R
section
variable {P : Program} {w : World} {K : PySem.W.Frag} {mg : Str → Option Value} {base : Heap}
theorem ok_WebError___init__ (T : Tx K mg) : FnOk P w K mg base (L2.CX P w) 1 T.f_WebError___init__ T.fd_WebError___init__ ["self", "at"] (spAt K) := by
  refine T.F_WebError___init__.okX sc_WebError___init__ (fun vs H Q E ⟨a, C, n, e, _⟩ => by rw [e]; rfl) (fun cdv A outer s H vs Q E hr h => ⟨_, (pss_one (ps_ost (pv 0) (pv 1))), pure_at vs H Q E h⟩)
theorem ok_fraction (T : Tx K mg) : FnOk P w K mg base (L2.CX P w) 3 T.f_fraction T.fd_fraction ["numerator", "denominator"] ((fn_fraction T).sp K) := by
  refine T.F_fraction.okX sc_fraction (SpA.len fun x => by rw [List.length_map]; exact x.2.trans (fnm_fraction T)) (fun cdv A outer s H vs Q E hr h => ⟨_, (pss_cons (ps_if (pt_cmpR op_eq (pv 1) pe_int (nomark _))
        (pss_one (ps_raise rfl (takes_of rfl rfl rfl rfl) (pmk_oex T.x_ZeroDivisor.1 T.x_ZeroDivisor.2.2.1 T.x_ZeroDivisor.2.2.2.1 (ok_WebError___init__ T) (hr.mono (by decide)) T.b_WebError___init__ .nil pass_no (by rfl) T.x_ZeroDivisor.2.2.2.2 (pa_cons (pv 0) pa_nil))))
        pss_nil)
      (pss_cons (ps_set (i := 2) sc_fraction.nd rfl (by first | exact Or.inl rfl | exact Or.inr rfl) (pe_callBfun cr_gcd (by rfl) T.z_gcd (pa_cons (pv 0) (pa_cons (pv 1) pa_nil))))
      (pss_cons (ps_if (pt_cmpR op_lt (pv 1) pe_int (nomark _))
        (pss_one (ps_set (i := 2) sc_fraction.nd rfl (by first | exact Or.inl rfl | exact Or.inr rfl) (pe_un un_neg (pv 2))))
        pss_nil)
      (pss_one (ps_ret (pe_tup (pa_cons (pe_op op_fdivU (pv 0) (pv 2)) (pa_cons (pe_op op_fdivU (pv 1) (pv 2)) pa_nil)))))))), ?_⟩)
  exact Fn.run (xs_fraction T) N_fraction h (fun as_ _ _ => by rw [fnm_fraction, fno_fraction]; exact (fnf_fraction T as_).symm)
theorem ok_minus (T : Tx K mg) : FnOk P w K mg base (L2.CX P w) 4 T.f_minus T.fd_minus ["first", "second"] ((fn_minus T).sp K) := by
  refine T.F_minus.okX sc_minus (SpA.len fun x => by rw [List.length_map]; exact x.2.trans (fnm_minus T)) (fun cdv A outer s H vs Q E hr h => ⟨_, (pss_one (ps_ret (pe_call (ok_fraction T) (hr.mono (by decide)) (by rfl) T.g_fraction T.F_fraction.kp T.b_fraction .nil (passes_call (takes_of rfl rfl rfl rfl) fun _ _ _ _ z => z) (pa_cons (pe_op op_sub (pe_op op_mulU (pe_ix (kix_tup K) (pv 0) pe_int (fun _ _ => rfl)) (pe_ix (kix_tup K) (pv 1) pe_int (fun _ _ => rfl))) (pe_op op_mulU (pe_ix (kix_tup K) (pv 1) pe_int (fun _ _ => rfl)) (pe_ix (kix_tup K) (pv 0) pe_int (fun _ _ => rfl)))) (pa_cons (pe_op op_mulU (pe_ix (kix_tup K) (pv 0) pe_int (fun _ _ => rfl)) (pe_ix (kix_tup K) (pv 1) pe_int (fun _ _ => rfl))) pa_nil))))), ?_⟩)
  exact Fn.run (xs_minus T) N_minus h (fun as_ _ _ => by rw [fnm_minus, fno_minus]; exact (fnf_minus T as_).symm)
theorem ok_ceiling (T : Tx K mg) : FnOk P w K mg base (L2.CX P w) 1 T.f_ceiling T.fd_ceiling ["pair"] ((fn_ceiling T).sp K) := by
  refine T.F_ceiling.okX sc_ceiling (SpA.len fun x => by rw [List.length_map]; exact x.2.trans (fnm_ceiling T)) (fun cdv A outer s H vs Q E hr h => ⟨_, (pss_one (ps_ret (pe_un un_neg (pe_op op_fdivW (pe_un un_neg (pe_ix (kix_tup K) (pv 0) pe_int (fun _ _ => rfl))) (pe_ix (kix_tup K) (pv 0) pe_int (fun _ _ => rfl)))))), ?_⟩)
  exact Fn.run (xs_ceiling T) N_ceiling h (fun as_ _ _ => by rw [fnm_ceiling, fno_ceiling]; exact (fnf_ceiling T as_).symm)
theorem ok_scaled (T : Tx K mg) : FnOk P w K mg base (L2.CX P w) 1 T.f_scaled T.fd_scaled ["fractions"] ((fn_scaled T).sp K) := by
  refine T.F_scaled.okX sc_scaled (SpA.len fun x => by rw [List.length_map]; exact x.2.trans (fnm_scaled T)) (fun cdv A outer s H vs Q E hr h => ⟨_, (pss_cons (ps_set (i := 1) sc_scaled.nd rfl (by first | exact Or.inl rfl | exact Or.inr rfl) pe_int)
      (pss_cons (ps_for (passes_of rfl) rfl (kpi_list K (pv 0)) (pg_name (i := 2) sc_scaled.nd rfl (by first | exact Or.inl rfl | exact Or.inr rfl))
        (pss_one (ps_set (i := 1) sc_scaled.nd rfl (by first | exact Or.inl rfl | exact Or.inr rfl) (pe_callBfun cr_lcm (by rfl) T.z_lcm (pa_cons (pv 1) (pa_cons (pe_ix (kix_tup K) (pv 2) pe_int (fun _ _ => rfl)) pa_nil))))))
      (pss_one (ps_ret (pe_tup (pa_cons (pe_lc (own := [("pair", 2)]) (g := (gName 2)) rfl sc_scaled.nd (kpi_list K (pv 0)) (blkOk_by (N := N_scaled) (sc := defScope s_scaled) (by decide +kernel)) (fun _ _ _ _ _ => (pg_name (i := 2) sc_scaled.nd rfl (by first | exact Or.inl rfl | exact Or.inr rfl))) (fun _ _ _ _ _ => pts_nil) (fun _ _ _ _ _ => (pe_op op_mulU (pe_ix (kix_tup K) (pv 2) pe_int (fun _ _ => rfl)) (pe_op op_fdivW (pv 1) (pe_ix (kix_tup K) (pv 2) pe_int (fun _ _ => rfl)))))) (pa_cons (pv 1) pa_nil))))))), ?_⟩)
  exact Fn.run (xs_scaled T) N_scaled h (fun as_ _ _ => by rw [fnm_scaled, fno_scaled]; exact (fnf_scaled T as_).symm)
theorem ok_added (T : Tx K mg) : FnOk P w K mg base (L2.CX P w) 4 T.f_added T.fd_added ["fractions"] ((fn_added T).sp K) := by
  refine T.F_added.okX sc_added (SpA.len fun x => by rw [List.length_map]; exact x.2.trans (fnm_added T)) (fun cdv A outer s H vs Q E hr h => ⟨_, (pss_cons (ps_asg (pe_call (ok_scaled T) (hr.mono (by decide)) (by rfl) T.g_scaled T.F_scaled.kp T.b_scaled .nil (passes_call (takes_of rfl rfl rfl rfl) fun _ _ _ _ z => z) (pa_cons (pv 0) pa_nil)) (kpg_tup K (n := 2) rfl (pgs_cons (pg_name (i := 1) sc_added.nd rfl (by first | exact Or.inl rfl | exact Or.inr rfl)) (pgs_cons (pg_name (i := 2) sc_added.nd rfl (by first | exact Or.inl rfl | exact Or.inr rfl)) pgs_nil))))
      (pss_one (ps_ret (pe_call (ok_fraction T) (hr.mono (by decide)) (by rfl) T.g_fraction T.F_fraction.kp T.b_fraction .nil (passes_call (takes_of rfl rfl rfl rfl) fun _ _ _ _ z => z) (pa_cons (pe_callB (kcall_sum K rfl) (by rfl) T.z_sum (by decide +kernel) (pa_cons (pv 1) pa_nil)) (pa_cons (pv 2) pa_nil)))))), ?_⟩)
  exact Fn.run (xs_added T) N_added h (fun as_ _ _ => by rw [fnm_added, fno_added]; exact (fnf_added T as_).symm)
theorem ok_Program___init__ (T : Tx K mg) : FnOk P w K mg base (L2.CX P w) 3 T.f_Program___init__ T.fd_Program___init__ ["self", "prices", "rows"] ((fn_Program___init__ T).sp K T.c_Program) := by
  refine T.F_Program___init__.okX sc_Program___init__ (SpI.len fun x => by rw [List.length_map]; exact x.2.trans (fnm_Program___init__ T)) (fun cdv A outer s H vs Q E hr h => ⟨_, (pss_cons (ps_if (pt_not (pt_chain op_le op_le pe_int (pe_callB (kcall_len K) (by rfl) T.z_len PySem.boot_len (pa_cons (pv 1) pa_nil)) (pe_glob (v := .int 40) (by rfl) T.k_MOST_VARIABLES_program ⟨_, rfl⟩)))
        (pss_one (ps_raise rfl (takes_of rfl rfl rfl rfl) (pmk_oex T.x_OutOfRange.1 T.x_OutOfRange.2.2.1 T.x_OutOfRange.2.2.2.1 (ok_WebError___init__ T) (hr.mono (by decide)) T.b_WebError___init__ .nil pass_no (by rfl) T.x_OutOfRange.2.2.2.2 (pa_cons (pe_callB (kcall_len K) (by rfl) T.z_len PySem.boot_len (pa_cons (pv 1) pa_nil)) pa_nil))))
        pss_nil)
      (pss_cons (ps_if (pt_cmpR op_gt (pe_callB (kcall_len K) (by rfl) T.z_len PySem.boot_len (pa_cons (pv 2) pa_nil)) (pe_glob (v := .int 80) (by rfl) T.k_MOST_ROWS ⟨_, rfl⟩) (nomark _))
        (pss_one (ps_raise rfl (takes_of rfl rfl rfl rfl) (pmk_oex T.x_TooMany.1 T.x_TooMany.2.2.1 T.x_TooMany.2.2.2.1 (ok_WebError___init__ T) (hr.mono (by decide)) T.b_WebError___init__ .nil pass_no (by rfl) T.x_TooMany.2.2.2.2 (pa_cons (pe_callB (kcall_len K) (by rfl) T.z_len PySem.boot_len (pa_cons (pv 2) pa_nil)) pa_nil))))
        pss_nil)
      (pss_cons (ps_for (passes_of rfl) rfl (kpi_enum K (by rfl) T.z_enumerate (pa_cons (pv 2) pa_nil)) (kpg_tup K (n := 2) rfl (pgs_cons (pg_name (i := 3) sc_Program___init__.nd rfl (by first | exact Or.inl rfl | exact Or.inr rfl)) (pgs_cons (kpg_tup K (n := 3) rfl (pgs_cons (pg_name (i := 4) sc_Program___init__.nd rfl (by first | exact Or.inl rfl | exact Or.inr rfl)) (pgs_cons (pg_name (i := 5) sc_Program___init__.nd rfl (by first | exact Or.inl rfl | exact Or.inr rfl)) (pgs_cons (pg_name (i := 6) sc_Program___init__.nd rfl (by first | exact Or.inl rfl | exact Or.inr rfl)) pgs_nil)))) pgs_nil)))
        (pss_cons (ps_if (pt_cmpR op_ne (pe_callB (kcall_len K) (by rfl) T.z_len PySem.boot_len (pa_cons (pv 4) pa_nil)) (pe_callB (kcall_len K) (by rfl) T.z_len PySem.boot_len (pa_cons (pv 1) pa_nil)) (nomark _))
        (pss_one (ps_raise rfl (takes_of rfl rfl rfl rfl) (pmk_oex T.x_WrongSize.1 T.x_WrongSize.2.2.1 T.x_WrongSize.2.2.2.1 (ok_WebError___init__ T) (hr.mono (by decide)) T.b_WebError___init__ .nil pass_no (by rfl) T.x_WrongSize.2.2.2.2 (pa_cons (pv 3) pa_nil))))
        pss_nil)
      (pss_one (ps_if (pt_cmpR (kop_notIn K) (pv 5) (pe_glob (v := .ref T.c_RELATIONS) (by rfl) T.k_RELATIONS rfl) rfl)
        (pss_one (ps_raise rfl (takes_of rfl rfl rfl rfl) (pmk_oex T.x_BadRelation.1 T.x_BadRelation.2.2.1 T.x_BadRelation.2.2.2.1 (ok_WebError___init__ T) (hr.mono (by decide)) T.b_WebError___init__ .nil pass_no (by rfl) T.x_BadRelation.2.2.2.2 (pa_cons (pv 3) pa_nil))))
        pss_nil))))
      (pss_cons (kps_fld K (pv 0) (pe_callTy (kcall_list K) (by rfl) T.z_list (by decide +kernel) (pa_cons (pv 1) pa_nil)) rfl)
      (pss_one (kps_fld K (pv 0) (pe_lc (own := [("numbers", 4), ("relation", 5), ("bound", 7)]) (g := (gTup K 3 (gCons (gName 4) (gCons (gName 5) (gCons (gName 7) gNil))))) rfl sc_Program___init__.nd (kpi_list K (pv 2)) (blkOk_by (N := N_Program___init__) (sc := defScope s_Program___init__) (by decide +kernel)) (fun _ _ _ _ _ => (kpg_tup K (n := 3) rfl (pgs_cons (pg_name (i := 4) sc_Program___init__.nd rfl (by first | exact Or.inl rfl | exact Or.inr rfl)) (pgs_cons (pg_name (i := 5) sc_Program___init__.nd rfl (by first | exact Or.inl rfl | exact Or.inr rfl)) (pgs_cons (pg_name (i := 7) sc_Program___init__.nd rfl (by first | exact Or.inl rfl | exact Or.inr rfl)) pgs_nil))))) (fun _ _ _ _ _ => pts_nil) (fun _ _ _ _ _ => (pe_tup (pa_cons (pe_callTy (kcall_list K) (by rfl) T.z_list (by decide +kernel) (pa_cons (pv 4) pa_nil)) (pa_cons (pv 5) (pa_cons (pv 7) pa_nil)))))) rfl)))))), ?_⟩)
  exact FnI.run (xs_Program___init__ T) N_Program___init__ h (fun xs _ hn a => by rw [fnm_Program___init__]; exact run_Program___init__ T xs hn a)
theorem ok_Program_count (T : Tx K mg) : FnOk P w K mg base (L2.CX P w) 1 T.f_Program_count T.fd_Program_count ["self"] ((fn_Program_count T).sp K) := by
  refine T.F_Program_count.okX sc_Program_count (SpA.len fun x => by rw [List.length_map]; exact x.2.trans (fnm_Program_count T)) (fun cdv A outer s H vs Q E hr h => ⟨_, (pss_one (ps_ret (pe_callB (kcall_len K) (by rfl) T.z_len PySem.boot_len (pa_cons (kpe_fld K (pv 0) rfl) pa_nil)))), ?_⟩)
  exact Fn.run (xs_Program_count T) N_Program_count h (fun as_ _ _ => by rw [fnm_Program_count, fno_Program_count]; exact (fnf_Program_count T as_).symm)
theorem ok_Program_prices (T : Tx K mg) : FnOk P w K mg base (L2.CX P w) 1 T.f_Program_prices T.fd_Program_prices ["self"] ((fn_Program_prices T).sp K) := by
  refine T.F_Program_prices.okX sc_Program_prices (SpA.len fun x => by rw [List.length_map]; exact x.2.trans (fnm_Program_prices T)) (fun cdv A outer s H vs Q E hr h => ⟨_, (pss_one (ps_ret (pe_callTy (kcall_list K) (by rfl) T.z_list (by decide +kernel) (pa_cons (kpe_fld K (pv 0) rfl) pa_nil)))), ?_⟩)
  exact Fn.run (xs_Program_prices T) N_Program_prices h (fun as_ _ _ => by rw [fnm_Program_prices, fno_Program_prices]; exact (fnf_Program_prices T as_).symm)
theorem ok_Program_rows (T : Tx K mg) : FnOk P w K mg base (L2.CX P w) 1 T.f_Program_rows T.fd_Program_rows ["self"] ((fn_Program_rows T).sp K) := by
  refine T.F_Program_rows.okX sc_Program_rows (SpA.len fun x => by rw [List.length_map]; exact x.2.trans (fnm_Program_rows T)) (fun cdv A outer s H vs Q E hr h => ⟨_, (pss_one (ps_ret (pe_lc (own := [("numbers", 1), ("relation", 2), ("bound", 3)]) (g := (gTup K 3 (gCons (gName 1) (gCons (gName 2) (gCons (gName 3) gNil))))) rfl sc_Program_rows.nd (kpi_list K (kpe_fld K (pv 0) rfl)) (blkOk_by (N := N_Program_rows) (sc := defScope s_Program_rows) (by decide +kernel)) (fun _ _ _ _ _ => (kpg_tup K (n := 3) rfl (pgs_cons (pg_name (i := 1) sc_Program_rows.nd rfl (by first | exact Or.inl rfl | exact Or.inr rfl)) (pgs_cons (pg_name (i := 2) sc_Program_rows.nd rfl (by first | exact Or.inl rfl | exact Or.inr rfl)) (pgs_cons (pg_name (i := 3) sc_Program_rows.nd rfl (by first | exact Or.inl rfl | exact Or.inr rfl)) pgs_nil))))) (fun _ _ _ _ _ => pts_nil) (fun _ _ _ _ _ => (pe_tup (pa_cons (pe_callTy (kcall_list K) (by rfl) T.z_list (by decide +kernel) (pa_cons (pv 1) pa_nil)) (pa_cons (pv 2) (pa_cons (pv 3) pa_nil)))))))), ?_⟩)
  exact Fn.run (xs_Program_rows T) N_Program_rows h (fun as_ _ _ => by rw [fnm_Program_rows, fno_Program_rows]; exact (fnf_Program_rows T as_).symm)
theorem ok_dot (T : Tx K mg) : FnOk P w K mg base (L2.CX P w) 1 T.f_dot T.fd_dot ["numbers", "others"] ((fn_dot T).sp K) := by
  refine T.F_dot.okX sc_dot (SpA.len fun x => by rw [List.length_map]; exact x.2.trans (fnm_dot T)) (fun cdv A outer s H vs Q E hr h => ⟨_, (pss_one (ps_ret (pe_callB (kcall_sum K rfl) (by rfl) T.z_sum (by decide +kernel) (pa_cons (pe_lc (own := [("number", 2), ("other", 3)]) (g := (gTup K 2 (gCons (gName 2) (gCons (gName 3) gNil)))) rfl sc_dot.nd (pi_zip (by rfl) T.z_zip (pa_cons (pv 0) (pa_cons (pv 1) pa_nil))) (blkOk_by (N := N_dot) (sc := defScope s_dot) (by decide +kernel)) (fun _ _ _ _ _ => (kpg_tup K (n := 2) rfl (pgs_cons (pg_name (i := 2) sc_dot.nd rfl (by first | exact Or.inl rfl | exact Or.inr rfl)) (pgs_cons (pg_name (i := 3) sc_dot.nd rfl (by first | exact Or.inl rfl | exact Or.inr rfl)) pgs_nil)))) (fun _ _ _ _ _ => pts_nil) (fun _ _ _ _ _ => (pe_op op_mulU (pv 2) (pv 3)))) pa_nil)))), ?_⟩)
  exact Fn.run (xs_dot T) N_dot h (fun as_ _ _ => by rw [fnm_dot, fno_dot]; exact (fnf_dot T as_).symm)
theorem ok_is_fit (T : Tx K mg) : FnOk P w K mg base (L2.CX P w) 1 T.f_is_fit T.fd_is_fit ["relation", "multiplier"] ((fn_is_fit T).sp K) := by
  refine T.F_is_fit.okX sc_is_fit (SpA.len fun x => by rw [List.length_map]; exact x.2.trans (fnm_is_fit T)) (fun cdv A outer s H vs Q E hr h => ⟨_, (pss_cons (ps_if (pt_cmpR op_eq (pv 0) pe_str (nomark _))
        (pss_one (ps_ret (pe_cmpR op_ge (pe_ix (kix_tup K) (pv 1) pe_int (fun _ _ => rfl)) pe_int (nomark _))))
        pss_nil)
      (pss_one (ps_ret (pe_or (pe_cmpR op_eq (pv 0) pe_str (nomark _)) (pe_one (pe_cmpR op_le (pe_ix (kix_tup K) (pv 1) pe_int (fun _ _ => rfl)) pe_int (nomark _))))))), ?_⟩)
  exact Fn.run (xs_is_fit T) N_is_fit h (fun as_ _ _ => by rw [fnm_is_fit, fno_is_fit]; exact (fnf_is_fit T as_).symm)
theorem ok_are_fit (T : Tx K mg) : FnOk P w K mg base (L2.CX P w) 2 T.f_are_fit T.fd_are_fit ["program", "multipliers"] ((fn_are_fit T).sp K) := by
  refine T.F_are_fit.okX sc_are_fit (SpA.len fun x => by rw [List.length_map]; exact x.2.trans (fnm_are_fit T)) (fun cdv A outer s H vs Q E hr h => ⟨_, (pss_cons (ps_set (i := 2) sc_are_fit.nd rfl (by first | exact Or.inl rfl | exact Or.inr rfl) (pe_meth0 (pv 0) T.cl_Program T.m_Program_rows (ok_Program_rows T) (hr.mono (by decide)) T.b_Program_rows .nil (passes_call (takes_of rfl rfl rfl rfl) fun _ _ _ _ z => z)))
      (pss_cons (ps_if (pt_cmpR op_ne (pe_callB (kcall_len K) (by rfl) T.z_len PySem.boot_len (pa_cons (pv 1) pa_nil)) (pe_callB (kcall_len K) (by rfl) T.z_len PySem.boot_len (pa_cons (pv 2) pa_nil)) (nomark _))
        (pss_one (ps_ret pe_bl))
        pss_nil)
      (pss_one (ps_ret (pe_callB (kcall_all K rfl) (by rfl) T.z_all (by decide +kernel) (pa_cons (pe_lc (own := [("row", 3), ("multiplier", 4)]) (g := (gTup K 2 (gCons (gName 3) (gCons (gName 4) gNil)))) rfl sc_are_fit.nd (pi_zip (by rfl) T.z_zip (pa_cons (pv 2) (pa_cons (pv 1) pa_nil))) (blkOk_by (N := N_are_fit) (sc := defScope s_are_fit) (by decide +kernel)) (fun _ _ _ _ _ => (kpg_tup K (n := 2) rfl (pgs_cons (pg_name (i := 3) sc_are_fit.nd rfl (by first | exact Or.inl rfl | exact Or.inr rfl)) (pgs_cons (pg_name (i := 4) sc_are_fit.nd rfl (by first | exact Or.inl rfl | exact Or.inr rfl)) pgs_nil)))) (fun _ _ _ _ _ => pts_nil) (fun _ _ _ _ _ => (pe_call (ok_is_fit T) (hr.mono (by decide)) (by rfl) T.g_is_fit T.F_is_fit.kp T.b_is_fit .nil pass_no (pa_cons (pe_ix (kix_tup K) (pv 3) pe_int (fun _ _ => rfl)) (pa_cons (pv 4) pa_nil))))) pa_nil)))))), ?_⟩)
  exact Fn.run (xs_are_fit T) N_are_fit h (fun as_ _ _ => by rw [fnm_are_fit, fno_are_fit]; exact (fnf_are_fit T as_).symm)
theorem ok_scaled_for (T : Tx K mg) : FnOk P w K mg base (L2.CX P w) 3 T.f_scaled_for T.fd_scaled_for ["rows", "multipliers"] ((fn_scaled_for T).sp K) := by
  refine T.F_scaled_for.okX sc_scaled_for (SpA.len fun x => by rw [List.length_map]; exact x.2.trans (fnm_scaled_for T)) (fun cdv A outer s H vs Q E hr h => ⟨_, (pss_cons (ps_if (pt_cmpR op_ne (pe_callB (kcall_len K) (by rfl) T.z_len PySem.boot_len (pa_cons (pv 1) pa_nil)) (pe_callB (kcall_len K) (by rfl) T.z_len PySem.boot_len (pa_cons (pv 0) pa_nil)) (nomark _))
        (pss_one (ps_raise rfl (takes_of rfl rfl rfl rfl) (pmk_oex T.x_WrongSize.1 T.x_WrongSize.2.2.1 T.x_WrongSize.2.2.2.1 (ok_WebError___init__ T) (hr.mono (by decide)) T.b_WebError___init__ .nil pass_no (by rfl) T.x_WrongSize.2.2.2.2 (pa_cons pe_int pa_nil))))
        pss_nil)
      (pss_one (ps_ret (pe_call (ok_scaled T) (hr.mono (by decide)) (by rfl) T.g_scaled T.F_scaled.kp T.b_scaled .nil (passes_call (takes_of rfl rfl rfl rfl) fun _ _ _ _ z => z) (pa_cons (pv 1) pa_nil))))), ?_⟩)
  exact Fn.run (xs_scaled_for T) N_scaled_for h (fun as_ _ _ => by rw [fnm_scaled_for, fno_scaled_for]; exact (fnf_scaled_for T as_).symm)
theorem ok_loads (T : Tx K mg) : FnOk P w K mg base (L2.CX P w) 4 T.f_loads T.fd_loads ["program", "multipliers"] ((fn_loads T).sp K) := by
  refine T.F_loads.okX sc_loads (SpA.len fun x => by rw [List.length_map]; exact x.2.trans (fnm_loads T)) (fun cdv A outer s H vs Q E hr h => ⟨_, (pss_cons (ps_set (i := 2) sc_loads.nd rfl (by first | exact Or.inl rfl | exact Or.inr rfl) (pe_meth0 (pv 0) T.cl_Program T.m_Program_rows (ok_Program_rows T) (hr.mono (by decide)) T.b_Program_rows .nil (passes_call (takes_of rfl rfl rfl rfl) fun _ _ _ _ z => z)))
      (pss_cons (ps_asg (pe_call (ok_scaled_for T) (hr.mono (by decide)) (by rfl) T.g_scaled_for T.F_scaled_for.kp T.b_scaled_for .nil (passes_call (takes_of rfl rfl rfl rfl) fun _ _ _ _ z => z) (pa_cons (pv 2) (pa_cons (pv 1) pa_nil))) (kpg_tup K (n := 2) rfl (pgs_cons (pg_name (i := 3) sc_loads.nd rfl (by first | exact Or.inl rfl | exact Or.inr rfl)) (pgs_cons (pg_name (i := 4) sc_loads.nd rfl (by first | exact Or.inl rfl | exact Or.inr rfl)) pgs_nil))))
      (pss_one (ps_ret (pe_lc (own := [("variable", 5)]) (g := (gName 5)) rfl sc_loads.nd (pi_range1 (by rfl) T.z_range (pa_cons (pe_meth0 (pv 0) T.cl_Program T.m_Program_count (ok_Program_count T) (hr.mono (by decide)) T.b_Program_count .nil (passes_call (takes_of rfl rfl rfl rfl) fun _ _ _ _ z => z)) pa_nil)) (blkOk_by (N := N_loads) (sc := defScope s_loads) (by decide +kernel)) (fun _ _ _ _ _ => (pg_name (i := 5) sc_loads.nd rfl (by first | exact Or.inl rfl | exact Or.inr rfl))) (fun _ _ _ _ _ => pts_nil) (fun _ _ _ _ _ => (pe_call (ok_fraction T) (hr.mono (by decide)) (by rfl) T.g_fraction T.F_fraction.kp T.b_fraction .nil pass_no (pa_cons (pe_call (ok_dot T) (hr.mono (by decide)) (by rfl) T.g_dot T.F_dot.kp T.b_dot .nil pass_no (pa_cons (pe_lc (own := [("row", 6)]) (g := (gName 6)) rfl sc_loads.nd (kpi_list K (pv 2)) (blkOk_by (by rfl)) (fun _ _ _ _ _ => (pg_name (i := 6) sc_loads.nd rfl (by first | exact Or.inl rfl | exact Or.inr rfl))) (fun _ _ _ _ _ => pts_nil) (fun _ _ _ _ _ => (pe_ix (kix_list K) (pe_ix (kix_tup K) (pv 6) pe_int (fun _ _ => rfl)) (pv 5) (fun _ _ => rfl)))) (pa_cons (pv 3) pa_nil))) (pa_cons (pv 4) pa_nil))))))))), ?_⟩)
  exact Fn.run (xs_loads T) N_loads h (fun as_ _ _ => by rw [fnm_loads, fno_loads]; exact (fnf_loads T as_).symm)
theorem ok_gain (T : Tx K mg) : FnOk P w K mg base (L2.CX P w) 4 T.f_gain T.fd_gain ["program", "multipliers"] ((fn_gain T).sp K) := by
  refine T.F_gain.okX sc_gain (SpA.len fun x => by rw [List.length_map]; exact x.2.trans (fnm_gain T)) (fun cdv A outer s H vs Q E hr h => ⟨_, (pss_cons (ps_set (i := 2) sc_gain.nd rfl (by first | exact Or.inl rfl | exact Or.inr rfl) (pe_meth0 (pv 0) T.cl_Program T.m_Program_rows (ok_Program_rows T) (hr.mono (by decide)) T.b_Program_rows .nil (passes_call (takes_of rfl rfl rfl rfl) fun _ _ _ _ z => z)))
      (pss_cons (ps_asg (pe_call (ok_scaled_for T) (hr.mono (by decide)) (by rfl) T.g_scaled_for T.F_scaled_for.kp T.b_scaled_for .nil (passes_call (takes_of rfl rfl rfl rfl) fun _ _ _ _ z => z) (pa_cons (pv 2) (pa_cons (pv 1) pa_nil))) (kpg_tup K (n := 2) rfl (pgs_cons (pg_name (i := 3) sc_gain.nd rfl (by first | exact Or.inl rfl | exact Or.inr rfl)) (pgs_cons (pg_name (i := 4) sc_gain.nd rfl (by first | exact Or.inl rfl | exact Or.inr rfl)) pgs_nil))))
      (pss_one (ps_ret (pe_call (ok_fraction T) (hr.mono (by decide)) (by rfl) T.g_fraction T.F_fraction.kp T.b_fraction .nil (passes_call (takes_of rfl rfl rfl rfl) fun _ _ _ _ z => z) (pa_cons (pe_call (ok_dot T) (hr.mono (by decide)) (by rfl) T.g_dot T.F_dot.kp T.b_dot .nil (passes_call (takes_of rfl rfl rfl rfl) fun _ _ _ _ z => z) (pa_cons (pe_lc (own := [("row", 5)]) (g := (gName 5)) rfl sc_gain.nd (kpi_list K (pv 2)) (blkOk_by (N := N_gain) (sc := defScope s_gain) (by decide +kernel)) (fun _ _ _ _ _ => (pg_name (i := 5) sc_gain.nd rfl (by first | exact Or.inl rfl | exact Or.inr rfl))) (fun _ _ _ _ _ => pts_nil) (fun _ _ _ _ _ => (pe_ix (kix_tup K) (pv 5) pe_int (fun _ _ => rfl)))) (pa_cons (pv 3) pa_nil))) (pa_cons (pv 4) pa_nil))))))), ?_⟩)
  exact Fn.run (xs_gain T) N_gain h (fun as_ _ _ => by rw [fnm_gain, fno_gain]; exact (fnf_gain T as_).symm)
theorem ok_need_few (T : Tx K mg) : FnOk P w K mg base (L2.CX P w) 3 T.f_need_few T.fd_need_few ["program"] ((fn_need_few T).sp K) := by
  refine T.F_need_few.okX sc_need_few (SpA.len fun x => by rw [List.length_map]; exact x.2.trans (fnm_need_few T)) (fun cdv A outer s H vs Q E hr h => ⟨_, (pss_one (ps_if (pt_cmpR op_gt (pe_meth0 (pv 0) T.cl_Program T.m_Program_count (ok_Program_count T) (hr.mono (by decide)) T.b_Program_count .nil (passes_call (takes_of rfl rfl rfl rfl) fun _ _ _ _ z => z)) (pe_glob (v := .int 16) (by rfl) T.k_MOST_VARIABLES_bounds ⟨_, rfl⟩) (nomark _))
        (pss_one (ps_raise rfl (takes_of rfl rfl rfl rfl) (pmk_oex T.x_TooMany.1 T.x_TooMany.2.2.1 T.x_TooMany.2.2.2.1 (ok_WebError___init__ T) (hr.mono (by decide)) T.b_WebError___init__ .nil pass_no (by rfl) T.x_TooMany.2.2.2.2 (pa_cons (pe_meth0 (pv 0) T.cl_Program T.m_Program_count (ok_Program_count T) (hr.mono (by decide)) T.b_Program_count .nil (passes_call (takes_of rfl rfl rfl rfl) fun _ _ _ _ z => z)) pa_nil))))
        pss_nil)), ?_⟩)
  exact Fn.run (xs_need_few T) N_need_few h (fun as_ _ _ => by rw [fnm_need_few, fno_need_few]; exact (fnf_need_few T as_).symm)
theorem ok_need_fixing (T : Tx K mg) : FnOk P w K mg base (L2.CX P w) 4 T.f_need_fixing T.fd_need_fixing ["program", "fixing"] ((fn_need_fixing T).sp K) := by
  refine T.F_need_fixing.okX sc_need_fixing (SpA.len fun x => by rw [List.length_map]; exact x.2.trans (fnm_need_fixing T)) (fun cdv A outer s H vs Q E hr h => ⟨_, (pss_cons (ps_expr (pe_call (ok_need_few T) (hr.mono (by decide)) (by rfl) T.g_need_few T.F_need_few.kp T.b_need_few .nil (passes_call (takes_of rfl rfl rfl rfl) fun _ _ _ _ z => z) (pa_cons (pv 0) pa_nil)))
      (pss_cons (ps_if (pt_cmpR op_ne (pe_callB (kcall_len K) (by rfl) T.z_len PySem.boot_len (pa_cons (pv 1) pa_nil)) (pe_meth0 (pv 0) T.cl_Program T.m_Program_count (ok_Program_count T) (hr.mono (by decide)) T.b_Program_count .nil (passes_call (takes_of rfl rfl rfl rfl) fun _ _ _ _ z => z)) (nomark _))
        (pss_one (ps_raise rfl (takes_of rfl rfl rfl rfl) (pmk_oex T.x_WrongSize.1 T.x_WrongSize.2.2.1 T.x_WrongSize.2.2.2.1 (ok_WebError___init__ T) (hr.mono (by decide)) T.b_WebError___init__ .nil pass_no (by rfl) T.x_WrongSize.2.2.2.2 (pa_cons pe_int pa_nil))))
        pss_nil)
      (pss_one (ps_for (passes_of rfl) rfl (kpi_enum K (by rfl) T.z_enumerate (pa_cons (pv 1) pa_nil)) (kpg_tup K (n := 2) rfl (pgs_cons (pg_name (i := 2) sc_need_fixing.nd rfl (by first | exact Or.inl rfl | exact Or.inr rfl)) (pgs_cons (pg_name (i := 3) sc_need_fixing.nd rfl (by first | exact Or.inl rfl | exact Or.inr rfl)) pgs_nil)))
        (pss_one (ps_if (PW.pt (pw_and (pt_cmpR op_notN (pv 3) pe_non (nomark _)) (pw_and1 (pt_cmpR (kop_notIn K) (pv 3) (pe_tup (pa_cons pe_int (pa_cons pe_int pa_nil))) rfl))))
        (pss_one (ps_raise rfl (takes_of rfl rfl rfl rfl) (pmk_oex T.x_BadFixing.1 T.x_BadFixing.2.2.1 T.x_BadFixing.2.2.2.1 (ok_WebError___init__ T) (hr.mono (by decide)) T.b_WebError___init__ .nil pass_no (by rfl) T.x_BadFixing.2.2.2.2 (pa_cons (pv 2) pa_nil))))
        pss_nil)))))), ?_⟩)
  exact Fn.run (xs_need_fixing T) N_need_fixing h (fun as_ _ _ => by rw [fnm_need_fixing, fno_need_fixing]; exact (fnf_need_fixing T as_).symm)
theorem ok_bound_with (T : Tx K mg) : FnOk P w K mg base (L2.CX P w) 5 T.f_bound_with T.fd_bound_with ["program", "prices", "fixing", "multipliers"] ((fn_bound_with T).sp K) := by
  refine T.F_bound_with.okX sc_bound_with (SpA.len fun x => by rw [List.length_map]; exact x.2.trans (fnm_bound_with T)) (fun cdv A outer s H vs Q E hr h => ⟨_, (pss_cons (ps_set (i := 4) sc_bound_with.nd rfl (by first | exact Or.inl rfl | exact Or.inr rfl) (pe_lst (pa_cons (pe_call (ok_gain T) (hr.mono (by decide)) (by rfl) T.g_gain T.F_gain.kp T.b_gain .nil (passes_call (takes_of rfl rfl rfl rfl) fun _ _ _ _ z => z) (pa_cons (pv 0) (pa_cons (pv 3) pa_nil))) pa_nil)))
      (pss_cons (ps_for (passes_of rfl) rfl (kpi_zip3 K (by rfl) T.z_zip (pa_cons (pv 1) (pa_cons (pe_call (ok_loads T) (hr.mono (by decide)) (by rfl) T.g_loads T.F_loads.kp T.b_loads .nil (passes_call (takes_of rfl rfl rfl rfl) fun _ _ _ _ z => z) (pa_cons (pv 0) (pa_cons (pv 3) pa_nil))) (pa_cons (pv 2) pa_nil)))) (kpg_tup K (n := 3) rfl (pgs_cons (pg_name (i := 5) sc_bound_with.nd rfl (by first | exact Or.inl rfl | exact Or.inr rfl)) (pgs_cons (pg_name (i := 6) sc_bound_with.nd rfl (by first | exact Or.inl rfl | exact Or.inr rfl)) (pgs_cons (pg_name (i := 7) sc_bound_with.nd rfl (by first | exact Or.inl rfl | exact Or.inr rfl)) pgs_nil))))
        (pss_cons (ps_set (i := 8) sc_bound_with.nd rfl (by first | exact Or.inl rfl | exact Or.inr rfl) (pe_call (ok_minus T) (hr.mono (by decide)) (by rfl) T.g_minus T.F_minus.kp T.b_minus .nil (passes_call (takes_of rfl rfl rfl rfl) fun _ _ _ _ z => z) (pa_cons (pe_tup (pa_cons (pv 5) (pa_cons pe_int pa_nil))) (pa_cons (pv 6) pa_nil))))
      (pss_one (ps_if (PW.pt (pw_or (pt_cmpR (kop_eqD K (Z.room64 hr)) (pv 7) pe_int (nomark _)) (pw_or1 (PW.pt (pw_and (pt_cmpR op_isN (pv 7) pe_non (nomark _)) (pw_and1 (pt_cmpR op_lt (pe_ix (kix_tup K) (pv 8) pe_int (fun _ _ => rfl)) pe_int (nomark _))))))))
        (pss_one (ps_expr (pe_bm PySem.F.plainAttrs_list PySem.F.slot_list_append PySem.F.type_list_append mt_append (pv 4) (pa_cons (pv 8) pa_nil))))
        pss_nil))))
      (pss_one (ps_ret (pe_call (ok_added T) (hr.mono (by decide)) (by rfl) T.g_added T.F_added.kp T.b_added .nil (passes_call (takes_of rfl rfl rfl rfl) fun _ _ _ _ z => z) (pa_cons (pv 4) pa_nil)))))), ?_⟩)
  exact Fn.run (xs_bound_with T) N_bound_with h (fun as_ _ _ => by rw [fnm_bound_with, fno_bound_with]; exact (fnf_bound_with T as_).symm)
theorem ok_case_bound (T : Tx K mg) : FnOk P w K mg base (L2.CX P w) 6 T.f_case_bound T.fd_case_bound ["program", "fixing", "multipliers"] ((fn_case_bound T).sp K) := by
  refine T.F_case_bound.okX sc_case_bound (SpA.len fun x => by rw [List.length_map]; exact x.2.trans (fnm_case_bound T)) (fun cdv A outer s H vs Q E hr h => ⟨_, (pss_cons (ps_expr (pe_call (ok_need_fixing T) (hr.mono (by decide)) (by rfl) T.g_need_fixing T.F_need_fixing.kp T.b_need_fixing .nil (passes_call (takes_of rfl rfl rfl rfl) fun _ _ _ _ z => z) (pa_cons (pv 0) (pa_cons (pv 1) pa_nil))))
      (pss_one (ps_ret (pe_call (ok_bound_with T) (hr.mono (by decide)) (by rfl) T.g_bound_with T.F_bound_with.kp T.b_bound_with .nil (passes_call (takes_of rfl rfl rfl rfl) fun _ _ _ _ z => z) (pa_cons (pv 0) (pa_cons (pe_meth0 (pv 0) T.cl_Program T.m_Program_prices (ok_Program_prices T) (hr.mono (by decide)) T.b_Program_prices .nil (passes_call (takes_of rfl rfl rfl rfl) fun _ _ _ _ z => z)) (pa_cons (pv 1) (pa_cons (pv 2) pa_nil)))))))), ?_⟩)
  exact Fn.run (xs_case_bound T) N_case_bound h (fun as_ _ _ => by rw [fnm_case_bound, fno_case_bound]; exact (fnf_case_bound T as_).symm)
theorem ok_shows_none (T : Tx K mg) : FnOk P w K mg base (L2.CX P w) 6 T.f_shows_none T.fd_shows_none ["program", "fixing", "multipliers"] ((fn_shows_none T).sp K) := by
  refine T.F_shows_none.okX sc_shows_none (SpA.len fun x => by rw [List.length_map]; exact x.2.trans (fnm_shows_none T)) (fun cdv A outer s H vs Q E hr h => ⟨_, (pss_cons (ps_expr (pe_call (ok_need_fixing T) (hr.mono (by decide)) (by rfl) T.g_need_fixing T.F_need_fixing.kp T.b_need_fixing .nil (passes_call (takes_of rfl rfl rfl rfl) fun _ _ _ _ z => z) (pa_cons (pv 0) (pa_cons (pv 1) pa_nil))))
      (pss_cons (ps_if (pt_not (pt_val (pe_call (ok_are_fit T) (hr.mono (by decide)) (by rfl) T.g_are_fit T.F_are_fit.kp T.b_are_fit .nil (passes_call (takes_of rfl rfl rfl rfl) fun _ _ _ _ z => z) (pa_cons (pv 0) (pa_cons (pv 2) pa_nil)))))
        (pss_one (ps_ret pe_bl))
        pss_nil)
      (pss_one (ps_ret (pe_cmpR op_gt (pe_ix (kix_tup K) (pe_call (ok_bound_with T) (hr.mono (by decide)) (by rfl) T.g_bound_with T.F_bound_with.kp T.b_bound_with .nil (passes_call (takes_of rfl rfl rfl rfl) fun _ _ _ _ z => z) (pa_cons (pv 0) (pa_cons (pe_op op_rep (pe_lst (pa_cons pe_int pa_nil)) (pe_meth0 (pv 0) T.cl_Program T.m_Program_count (ok_Program_count T) (hr.mono (by decide)) T.b_Program_count .nil (passes_call (takes_of rfl rfl rfl rfl) fun _ _ _ _ z => z))) (pa_cons (pv 1) (pa_cons (pv 2) pa_nil))))) pe_int (fun _ _ => rfl)) pe_int (nomark _)))))), ?_⟩)
  exact Fn.run (xs_shows_none T) N_shows_none h (fun as_ _ _ => by rw [fnm_shows_none, fno_shows_none]; exact (fnf_shows_none T as_).symm)
theorem ok_first_under (T : Tx K mg) : FnOk P w K mg base (L2.CX P w) 1 T.f_first_under T.fd_first_under ["fixing"] ((fn_first_under T).sp K) := by
  refine T.F_first_under.okX sc_first_under (SpA.len fun x => by rw [List.length_map]; exact x.2.trans (fnm_first_under T)) (fun cdv A outer s H vs Q E hr h => ⟨_, (pss_one (ps_ret (pe_lc (own := [("fixed", 1)]) (g := (gName 1)) rfl sc_first_under.nd (kpi_list K (pv 0)) (blkOk_by (N := N_first_under) (sc := defScope s_first_under) (by decide +kernel)) (fun _ _ _ _ _ => (pg_name (i := 1) sc_first_under.nd rfl (by first | exact Or.inl rfl | exact Or.inr rfl))) (fun _ _ _ _ _ => pts_nil) (fun _ _ _ _ _ => (pe_ifExp (pt_cmpR op_isN (pv 1) pe_non (nomark _)) pe_int (pv 1)))))), ?_⟩)
  exact Fn.run (xs_first_under T) N_first_under h (fun as_ _ _ => by rw [fnm_first_under, fno_first_under]; exact (fnf_first_under T as_).symm)
theorem ok_closes (T : Tx K mg) : FnOk P w K mg base (L2.CX P w) 7 T.f_closes T.fd_closes ["program", "fixing", "multipliers", "value", "told"] ((fn_closes T).sp K) := by
  refine T.F_closes.okX sc_closes (SpA.len fun x => by rw [List.length_map]; exact x.2.trans (fnm_closes T)) (fun cdv A outer s H vs Q E hr h => ⟨_, (pss_cons (ps_expr (pe_call (ok_need_fixing T) (hr.mono (by decide)) (by rfl) T.g_need_fixing T.F_need_fixing.kp T.b_need_fixing .nil (passes_call (takes_of rfl rfl rfl rfl) fun _ _ _ _ z => z) (pa_cons (pv 0) (pa_cons (pv 1) pa_nil))))
      (pss_cons (ps_if (pt_not (pt_val (pe_call (ok_are_fit T) (hr.mono (by decide)) (by rfl) T.g_are_fit T.F_are_fit.kp T.b_are_fit .nil (passes_call (takes_of rfl rfl rfl rfl) fun _ _ _ _ z => z) (pa_cons (pv 0) (pa_cons (pv 2) pa_nil)))))
        (pss_one (ps_ret pe_bl))
        pss_nil)
      (pss_cons (ps_set (i := 5) sc_closes.nd rfl (by first | exact Or.inl rfl | exact Or.inr rfl) (pe_call (ok_ceiling T) (hr.mono (by decide)) (by rfl) T.g_ceiling T.F_ceiling.kp T.b_ceiling .nil (passes_call (takes_of rfl rfl rfl rfl) fun _ _ _ _ z => z) (pa_cons (pe_call (ok_case_bound T) (hr.mono (by decide)) (by rfl) T.g_case_bound T.F_case_bound.kp T.b_case_bound .nil (passes_call (takes_of rfl rfl rfl rfl) fun _ _ _ _ z => z) (pa_cons (pv 0) (pa_cons (pv 1) (pa_cons (pv 2) pa_nil)))) pa_nil)))
      (pss_one (ps_ret (pe_or (pe_cmpR op_gt (pv 5) (pv 3) (nomark _)) (pe_one (pe_and (pe_cmpR op_eq (pv 5) (pv 3) (nomark _)) (pe_one (pe_cmpR (ZD.kop_geD K (Z.room64 hr)) (pe_call (ok_first_under T) (hr.mono (by decide)) (by rfl) T.g_first_under T.F_first_under.kp T.b_first_under .nil (passes_call (takes_of rfl rfl rfl rfl) fun _ _ _ _ z => z) (pa_cons (pv 1) pa_nil)) (pv 4) (nomark _))))))))))), ?_⟩)
  exact Fn.run (xs_closes T) N_closes h (fun as_ _ _ => by rw [fnm_closes, fno_closes]; exact (fnf_closes T as_).symm)
theorem ok_law_numbers (T : Tx K mg) : FnOk P w K mg base (L2.CX P w) 1 T.f_law_numbers T.fd_law_numbers ["script", "many"] ((fn_law_numbers T).sp K) := by
  refine T.F_law_numbers.okX sc_law_numbers (SpA.len fun x => by rw [List.length_map]; exact x.2.trans (fnm_law_numbers T)) (fun cdv A outer s H vs Q E hr h => ⟨_, (pss_cons (ps_set (i := 2) sc_law_numbers.nd rfl (by first | exact Or.inl rfl | exact Or.inr rfl) (pe_op op_cat (pe_lc (own := [("cell", 7)]) (g := (gName 7)) rfl sc_law_numbers.nd (kpi_list K (pe_slice (ksl_list K) (pv 0) po_none (po_some pe_int))) (blkOk_by (N := N_law_numbers) (sc := defScope s_law_numbers) (by decide +kernel)) (fun _ _ _ _ _ => (pg_name (i := 7) sc_law_numbers.nd rfl (by first | exact Or.inl rfl | exact Or.inr rfl))) (fun _ _ _ _ _ => pts_nil) (fun _ _ _ _ _ => (pe_callB call_abs (by rfl) T.z_abs (by decide +kernel) (pa_cons (pv 7) pa_nil)))) (pe_lst (pa_cons pe_int pa_nil))))
      (pss_cons (ps_if (pt_cmpR op_gt (pe_callB (kcall_len K) (by rfl) T.z_len PySem.boot_len (pa_cons (pv 0) pa_nil)) pe_int (nomark _))
        (pss_one (ps_set (i := 2) sc_law_numbers.nd rfl (by first | exact Or.inl rfl | exact Or.inr rfl) (pe_slice (ksl_list K) (pv 2) po_none (po_some (pe_un un_neg pe_int)))))
        pss_nil)
      (pss_cons (ps_setLc (i := 3) (own := [("cell", 7)]) (g := (gName 7)) rfl sc_law_numbers.nd rfl rfl (sw_true rfl rfl rfl (by decide +kernel)) (kpi_list K (pv 2)) (blkOk_by (N := N_law_numbers) (sc := defScope s_law_numbers) (by decide +kernel)) (fun _ _ _ _ _ => (pg_name (i := 7) sc_law_numbers.nd rfl (by first | exact Or.inl rfl | exact Or.inr rfl))) (fun _ _ _ _ _ => pts_nil) (fun _ _ _ _ _ => (pe_op op_mod (pe_callTy call_int1 (by rfl) T.z_int (by decide +kernel) (pa_cons (pe_op op_add (pe_op op_mulU (pv 7) pe_int) pe_int) pa_nil)) pe_int)))
      (pss_cons (ps_set (i := 4) sc_law_numbers.nd rfl (by first | exact Or.inl rfl | exact Or.inr rfl) (pe_lst pa_nil))
      (pss_cons (ps_for (passes_of rfl) rfl (pi_range1 (by rfl) T.z_range (pa_cons (pv 1) pa_nil)) (pg_name (i := 5) sc_law_numbers.nd rfl (by first | exact Or.inl rfl | exact Or.inr rfl))
        (pss_cons (ps_set (i := 6) sc_law_numbers.nd rfl (by first | exact Or.inl rfl | exact Or.inr rfl) (pe_op op_mod (pe_callTy call_int1 (by rfl) T.z_int (by decide +kernel) (pa_cons (pv 5) pa_nil)) (pe_callB (kcall_len K) (by rfl) T.z_len PySem.boot_len (pa_cons (pv 2) pa_nil))))
      (pss_one (ps_if (pt_cmpR op_ge (pe_ix (kix_list K) (pv 2) (pv 6) (fun _ _ => rfl)) (pe_op op_pow pe_int pe_int) (nomark _))
        (pss_cons (ps_expr (pe_bm PySem.F.plainAttrs_list PySem.F.slot_list_append PySem.F.type_list_append mt_append (pv 4) (pa_cons (pe_op op_mod (pe_callTy call_int1 (by rfl) T.z_int (by decide +kernel) (pa_cons (pe_ix (kix_list K) (pv 2) (pv 6) (fun _ _ => rfl)) pa_nil)) pe_int) pa_nil)))
      (pss_one (ps_asg (pe_op op_fdivW (pe_ix (kix_list K) (pv 2) (pv 6) (fun _ _ => rfl)) pe_int) (pg_sub (pv 2) (pv 6) set_list))))
        (pss_cons (ps_asg (pe_op op_mod (pe_callTy call_int1 (by rfl) T.z_int (by decide +kernel) (pa_cons (pe_op op_add (pe_op op_add (pe_op op_mulU (pe_ix (kix_list K) (pv 3) (pv 6) (fun _ _ => rfl)) pe_int) pe_int) (pe_op op_mulU pe_int (pv 5))) pa_nil)) pe_int) (pg_sub (pv 3) (pv 6) set_list))
      (pss_one (ps_expr (pe_bm PySem.F.plainAttrs_list PySem.F.slot_list_append PySem.F.type_list_append mt_append (pv 4) (pa_cons (pe_op op_mod (pe_callTy call_int1 (by rfl) T.z_int (by decide +kernel) (pa_cons (pe_op op_add (pe_ix (kix_list K) (pv 2) (pv 6) (fun _ _ => rfl)) (pe_op op_fdivW (pe_ix (kix_list K) (pv 3) (pv 6) (fun _ _ => rfl)) pe_int)) pa_nil)) pe_int) pa_nil)))))))))
      (pss_one (ps_ret (pv 4)))))))), ?_⟩)
  exact Fn.run (xs_law_numbers T) N_law_numbers h (fun as_ _ _ => by rw [fnm_law_numbers, fno_law_numbers]; exact (fnf_law_numbers T as_).symm)
theorem ok_law_lowest (T : Tx K mg) : FnOk P w K mg base (L2.CX P w) 1 T.f_law_lowest T.fd_law_lowest ["p", "q"] ((fn_law_lowest T).sp K) := by
  refine T.F_law_lowest.okX sc_law_lowest (SpA.len fun x => by rw [List.length_map]; exact x.2.trans (fnm_law_lowest T)) (fun cdv A outer s H vs Q E hr h => ⟨_, (pss_cons (ps_if (pt_cmpR op_lt (pv 1) pe_int (nomark _))
        (pss_one (ps_par (i := 0) (j := 1) rfl sc_law_lowest.nd rfl rfl (by decide) rfl rfl (pa_cons (pe_un un_neg (pv 0)) (pa_cons (pe_un un_neg (pv 1)) pa_nil)) (by rfl)))
        pss_nil)
      (pss_cons (ps_par (i := 2) (j := 3) rfl sc_law_lowest.nd rfl rfl (by decide) rfl rfl (pa_cons (pe_callB call_abs (by rfl) T.z_abs (by decide +kernel) (pa_cons (pv 0) pa_nil)) (pa_cons (pv 1) pa_nil)) (by rfl))
      (pss_cons (ps_for (passes_of rfl) rfl (pi_range1 (by rfl) T.z_range (pa_cons pe_int pa_nil)) (pg_name (i := 4) sc_law_lowest.nd rfl (by first | exact Or.inl rfl | exact Or.inr rfl))
        (pss_cons (ps_if (pt_cmpR op_eq (pv 3) pe_int (nomark _))
        (pss_one ps_break)
        pss_nil)
      (pss_one (ps_par (i := 2) (j := 3) rfl sc_law_lowest.nd rfl rfl (by decide) rfl rfl (pa_cons (pv 3) (pa_cons (pe_op op_mod (pe_callTy call_int1 (by rfl) T.z_int (by decide +kernel) (pa_cons (pv 2) pa_nil)) (pv 3)) pa_nil)) (by rfl)))))
      (pss_one (ps_ret (pe_tup (pa_cons (pe_op op_fdivW (pv 0) (pv 2)) (pa_cons (pe_op op_fdivW (pv 1) (pv 2)) pa_nil)))))))), ?_⟩)
  exact Fn.run (xs_law_lowest T) N_law_lowest h (fun as_ _ _ => by rw [fnm_law_lowest, fno_law_lowest]; exact (fnf_law_lowest T as_).symm)
theorem ok_law_plus (T : Tx K mg) : FnOk P w K mg base (L2.CX P w) 2 T.f_law_plus T.fd_law_plus ["first", "second"] ((fn_law_plus T).sp K) := by
  refine T.F_law_plus.okX sc_law_plus (SpA.len fun x => by rw [List.length_map]; exact x.2.trans (fnm_law_plus T)) (fun cdv A outer s H vs Q E hr h => ⟨_, (pss_one (ps_ret (pe_call (ok_law_lowest T) (hr.mono (by decide)) (by rfl) T.g_law_lowest T.F_law_lowest.kp T.b_law_lowest .nil (passes_call (takes_of rfl rfl rfl rfl) fun _ _ _ _ z => z) (pa_cons (pe_op op_add (pe_op op_mulU (pe_ix (kix_tup K) (pv 0) pe_int (fun _ _ => rfl)) (pe_ix (kix_tup K) (pv 1) pe_int (fun _ _ => rfl))) (pe_op op_mulU (pe_ix (kix_tup K) (pv 1) pe_int (fun _ _ => rfl)) (pe_ix (kix_tup K) (pv 0) pe_int (fun _ _ => rfl)))) (pa_cons (pe_op op_mulU (pe_ix (kix_tup K) (pv 0) pe_int (fun _ _ => rfl)) (pe_ix (kix_tup K) (pv 1) pe_int (fun _ _ => rfl))) pa_nil))))), ?_⟩)
  exact Fn.run (xs_law_plus T) N_law_plus h (fun as_ _ _ => by rw [fnm_law_plus, fno_law_plus]; exact (fnf_law_plus T as_).symm)
theorem ok_law_added (T : Tx K mg) : FnOk P w K mg base (L2.CX P w) 3 T.f_law_added T.fd_law_added ["rows"] ((fn_law_added T).sp K) := by
  refine T.F_law_added.okX sc_law_added (SpA.len fun x => by rw [List.length_map]; exact x.2.trans (fnm_law_added T)) (fun cdv A outer s H vs Q E hr h => ⟨_, (pss_cons (ps_set (i := 1) sc_law_added.nd rfl (by first | exact Or.inl rfl | exact Or.inr rfl) (pe_tup (pa_cons pe_int (pa_cons pe_int pa_nil))))
      (pss_cons (ps_for (passes_of rfl) rfl (kpi_list K (pv 0)) (pg_name (i := 2) sc_law_added.nd rfl (by first | exact Or.inl rfl | exact Or.inr rfl))
        (pss_one (ps_set (i := 1) sc_law_added.nd rfl (by first | exact Or.inl rfl | exact Or.inr rfl) (pe_call (ok_law_plus T) (hr.mono (by decide)) (by rfl) T.g_law_plus T.F_law_plus.kp T.b_law_plus .nil (passes_call (takes_of rfl rfl rfl rfl) fun _ _ _ _ z => z) (pa_cons (pv 1) (pa_cons (pv 2) pa_nil))))))
      (pss_one (ps_ret (pv 1))))), ?_⟩)
  exact Fn.run (xs_law_added T) N_law_added h (fun as_ _ _ => by rw [fnm_law_added, fno_law_added]; exact (fnf_law_added T as_).symm)
theorem ok_law_weighted (T : Tx K mg) : FnOk P w K mg base (L2.CX P w) 4 T.f_law_weighted T.fd_law_weighted ["numbers", "values"] ((fn_law_weighted T).sp K) := by
  refine T.F_law_weighted.okX sc_law_weighted (SpA.len fun x => by rw [List.length_map]; exact x.2.trans (fnm_law_weighted T)) (fun cdv A outer s H vs Q E hr h => ⟨_, (pss_one (ps_ret (pe_call (ok_law_added T) (hr.mono (by decide)) (by rfl) T.g_law_added T.F_law_added.kp T.b_law_added .nil (passes_call (takes_of rfl rfl rfl rfl) fun _ _ _ _ z => z) (pa_cons (pe_lc (own := [("k", 2)]) (g := (gName 2)) rfl sc_law_weighted.nd (pi_range1 (by rfl) T.z_range (pa_cons (pe_callB (kcall_len K) (by rfl) T.z_len PySem.boot_len (pa_cons (pv 0) pa_nil)) pa_nil)) (blkOk_by (N := N_law_weighted) (sc := defScope s_law_weighted) (by decide +kernel)) (fun _ _ _ _ _ => (pg_name (i := 2) sc_law_weighted.nd rfl (by first | exact Or.inl rfl | exact Or.inr rfl))) (fun _ _ _ _ _ => pts_nil) (fun _ _ _ _ _ => (pe_call (ok_law_lowest T) (hr.mono (by decide)) (by rfl) T.g_law_lowest T.F_law_lowest.kp T.b_law_lowest .nil pass_no (pa_cons (pe_op op_mulU (pe_ix (kix_list K) (pv 0) (pv 2) (fun _ _ => rfl)) (pe_ix (kix_tup K) (pe_ix (kix_list K) (pv 1) (pv 2) (fun _ _ => rfl)) pe_int (fun _ _ => rfl))) (pa_cons (pe_ix (kix_tup K) (pe_ix (kix_list K) (pv 1) (pv 2) (fun _ _ => rfl)) pe_int (fun _ _ => rfl)) pa_nil))))) pa_nil)))), ?_⟩)
  exact Fn.run (xs_law_weighted T) N_law_weighted h (fun as_ _ _ => by rw [fnm_law_weighted, fno_law_weighted]; exact (fnf_law_weighted T as_).symm)
theorem ok_law_program (T : Tx K mg) : FnOk P w K mg base (L2.CX P w) 1 T.f_law_program T.fd_law_program ["numbers", "at", "most", "count"] ((fn_law_program T).sp K) := by
  refine T.F_law_program.okX sc_law_program (SpA.len fun x => by rw [List.length_map]; exact x.2.trans (fnm_law_program T)) (fun cdv A outer s H vs Q E hr h => ⟨_, (pss_cons (ps_set (i := 4) sc_law_program.nd rfl (by first | exact Or.inl rfl | exact Or.inr rfl) (pe_op op_add pe_int (pe_op op_mod (pe_callTy call_int1 (by rfl) T.z_int (by decide +kernel) (pa_cons (pe_ix (kix_list K) (pv 0) (pv 1) (fun _ _ => rfl)) pa_nil)) (pv 2))))
      (pss_cons (ps_set (i := 5) sc_law_program.nd rfl (by first | exact Or.inl rfl | exact Or.inr rfl) (pe_op op_add pe_int (pe_op op_mod (pe_callTy call_int1 (by rfl) T.z_int (by decide +kernel) (pa_cons (pe_ix (kix_list K) (pv 0) (pe_op op_add (pv 1) pe_int) (fun _ _ => rfl)) pa_nil)) pe_int)))
      (pss_cons (ps_setLc (i := 6) (own := [("j", 13)]) (g := (gName 13)) rfl sc_law_program.nd rfl rfl (sw_true rfl rfl rfl (by decide +kernel)) (pi_range1 (by rfl) T.z_range (pa_cons (pv 4) pa_nil)) (blkOk_by (N := N_law_program) (sc := defScope s_law_program) (by decide +kernel)) (fun _ _ _ _ _ => (pg_name (i := 13) sc_law_program.nd rfl (by first | exact Or.inl rfl | exact Or.inr rfl))) (fun _ _ _ _ _ => pts_nil) (fun _ _ _ _ _ => (pe_op op_sub (pe_op op_mod (pe_callTy call_int1 (by rfl) T.z_int (by decide +kernel) (pa_cons (pe_ix (kix_list K) (pv 0) (pe_op op_add (pe_op op_add (pv 1) pe_int) (pv 13)) (fun _ _ => rfl)) pa_nil)) (pe_op op_add (pe_op op_mulU pe_int (pv 5)) pe_int)) (pe_ix (kix_list K) (pe_lst (pa_cons pe_int (pa_cons pe_int (pa_cons (pe_op op_add (pv 5) pe_int) pa_nil)))) (pe_op op_mod (pe_op op_fdivW (pe_callTy call_int1 (by rfl) T.z_int (by decide +kernel) (pa_cons (pe_ix (kix_list K) (pv 0) (pe_op op_add (pv 1) pe_int) (fun _ _ => rfl)) pa_nil)) pe_int) pe_int) (fun _ _ => rfl)))))
      (pss_cons (ps_set (i := 7) sc_law_program.nd rfl (by first | exact Or.inl rfl | exact Or.inr rfl) (pe_lst pa_nil))
      (pss_cons (ps_for (passes_of rfl) rfl (pi_range1 (by rfl) T.z_range (pa_cons (pe_op op_mod (pe_callTy call_int1 (by rfl) T.z_int (by decide +kernel) (pa_cons (pe_ix (kix_list K) (pv 0) (pe_op op_add (pv 1) pe_int) (fun _ _ => rfl)) pa_nil)) (pe_op op_add (pv 3) pe_int)) pa_nil)) (pg_name (i := 8) sc_law_program.nd rfl (by first | exact Or.inl rfl | exact Or.inr rfl))
        (pss_cons (ps_set (i := 9) sc_law_program.nd rfl (by first | exact Or.inl rfl | exact Or.inr rfl) (pe_callTy call_int1 (by rfl) T.z_int (by decide +kernel) (pa_cons (pe_ix (kix_list K) (pv 0) (pe_op op_add (pe_op op_add (pv 1) pe_int) (pv 8)) (fun _ _ => rfl)) pa_nil)))
      (pss_cons (ps_set (i := 10) sc_law_program.nd rfl (by first | exact Or.inl rfl | exact Or.inr rfl) (pe_lc (own := [("j", 13)]) (g := (gName 13)) rfl sc_law_program.nd (pi_range1 (by rfl) T.z_range (pa_cons (pv 4) pa_nil)) (blkOk_by (N := N_law_program) (sc := defScope s_law_program) (by decide +kernel)) (fun _ _ _ _ _ => (pg_name (i := 13) sc_law_program.nd rfl (by first | exact Or.inl rfl | exact Or.inr rfl))) (fun _ _ _ _ _ => pts_nil) (fun _ _ _ _ _ => (pe_op op_sub (pe_op op_mod (pe_callTy call_int1 (by rfl) T.z_int (by decide +kernel) (pa_cons (pe_op op_add (pe_ix (kix_list K) (pv 0) (pe_op op_add (pe_op op_add (pv 1) pe_int) (pe_op op_mod (pe_callTy call_int1 (by rfl) T.z_int (by decide +kernel) (pa_cons (pe_op op_add (pe_op op_mulU (pv 8) (pv 4)) (pv 13)) pa_nil)) pe_int)) (fun _ _ => rfl)) (pe_op op_mulU pe_int (pv 8))) pa_nil)) (pe_op op_add (pv 5) pe_int)) (pe_op op_mulU (pe_op op_mod (pv 9) pe_int) (pe_op op_add pe_int (pe_op op_fdivW (pv 5) pe_int)))))))
      (pss_cons (ps_set (i := 11) sc_law_program.nd rfl (by first | exact Or.inl rfl | exact Or.inr rfl) (pe_ix (kix_list K) (pe_lst (pa_cons pe_str (pa_cons pe_str (pa_cons pe_str (pa_cons pe_str (pa_cons pe_str (pa_cons pe_str pa_nil))))))) (pe_op op_mod (pe_op op_fdivW (pv 9) pe_int) pe_int) (fun _ _ => rfl)))
      (pss_cons (ps_set (i := 12) sc_law_program.nd rfl (by first | exact Or.inl rfl | exact Or.inr rfl) (pe_callB (kcall_sum K rfl) (by rfl) T.z_sum (by decide +kernel) (pa_cons (pe_lc (own := [("j", 13)]) (g := (gName 13)) rfl sc_law_program.nd (pi_range1 (by rfl) T.z_range (pa_cons (pv 4) pa_nil)) (blkOk_by (N := N_law_program) (sc := defScope s_law_program) (by decide +kernel)) (fun _ _ _ _ _ => (pg_name (i := 13) sc_law_program.nd rfl (by first | exact Or.inl rfl | exact Or.inr rfl))) (fun _ _ _ _ _ => pts_nil) (fun _ _ _ _ _ => (pe_op op_mulU (pe_ix (kix_list K) (pv 10) (pv 13) (fun _ _ => rfl)) (pe_op op_mod (pe_op op_fdivW (pe_callTy call_int1 (by rfl) T.z_int (by decide +kernel) (pa_cons (pe_ix (kix_list K) (pv 0) (pe_op op_add (pe_op op_add (pv 1) pe_int) (pv 13)) (fun _ _ => rfl)) pa_nil)) pe_int) pe_int)))) pa_nil)))
      (pss_one (ps_expr (pe_bm PySem.F.plainAttrs_list PySem.F.slot_list_append PySem.F.type_list_append mt_append (pv 7) (pa_cons (pe_tup (pa_cons (pv 10) (pa_cons (pv 11) (pa_cons (pe_op op_add (pv 12) (pe_ix (kix_list K) (pe_lst (pa_cons pe_int (pa_cons pe_int (pa_cons pe_int (pa_cons (pe_un un_neg pe_int) (pa_cons pe_int pa_nil)))))) (pe_op op_mod (pe_op op_fdivW (pv 9) pe_int) pe_int) (fun _ _ => rfl))) pa_nil)))) pa_nil)))))))))
      (pss_one (ps_ret (pe_tup (pa_cons (pv 4) (pa_cons (pv 6) (pa_cons (pv 7) pa_nil))))))))))), ?_⟩)
  exact Fn.run (xs_law_program T) N_law_program h (fun as_ _ _ => by rw [fnm_law_program, fno_law_program]; exact (fnf_law_program T as_).symm)
theorem ok_law_good (T : Tx K mg) : FnOk P w K mg base (L2.CX P w) 1 T.f_law_good T.fd_law_good ["rows", "told"] ((fn_law_good T).sp K) := by
  refine T.F_law_good.okX sc_law_good (SpA.len fun x => by rw [List.length_map]; exact x.2.trans (fnm_law_good T)) (fun cdv A outer s H vs Q E hr h => ⟨_, (pss_cons (ps_for (passes_of rfl) rfl (kpi_list K (pv 0)) (kpg_tup K (n := 3) rfl (pgs_cons (pg_name (i := 2) sc_law_good.nd rfl (by first | exact Or.inl rfl | exact Or.inr rfl)) (pgs_cons (pg_name (i := 3) sc_law_good.nd rfl (by first | exact Or.inl rfl | exact Or.inr rfl)) (pgs_cons (pg_name (i := 4) sc_law_good.nd rfl (by first | exact Or.inl rfl | exact Or.inr rfl)) pgs_nil))))
        (pss_cons (ps_set (i := 5) sc_law_good.nd rfl (by first | exact Or.inl rfl | exact Or.inr rfl) (pe_callB (kcall_sum K rfl) (by rfl) T.z_sum (by decide +kernel) (pa_cons (pe_lc (own := [("j", 6)]) (g := (gName 6)) rfl sc_law_good.nd (pi_range1 (by rfl) T.z_range (pa_cons (pe_callB (kcall_len K) (by rfl) T.z_len PySem.boot_len (pa_cons (pv 1) pa_nil)) pa_nil)) (blkOk_by (N := N_law_good) (sc := defScope s_law_good) (by decide +kernel)) (fun _ _ _ _ _ => (pg_name (i := 6) sc_law_good.nd rfl (by first | exact Or.inl rfl | exact Or.inr rfl))) (fun _ _ _ _ _ => pts_nil) (fun _ _ _ _ _ => (pe_op op_mulU (pe_ix (kix_list K) (pv 2) (pv 6) (fun _ _ => rfl)) (pe_ix (kix_list K) (pv 1) (pv 6) (fun _ _ => rfl))))) pa_nil)))
      (pss_one (ps_if (PW.pt (pw_or (PW.pt (pw_and (pt_cmpR op_ne (pv 3) pe_str (nomark _)) (pw_and1 (pt_cmpR op_lt (pv 5) (pv 4) (nomark _))))) (pw_or1 (PW.pt (pw_and (pt_cmpR op_ne (pv 3) pe_str (nomark _)) (pw_and1 (pt_cmpR op_gt (pv 5) (pv 4) (nomark _))))))))
        (pss_one (ps_ret pe_bl))
        pss_nil))))
      (pss_one (ps_ret pe_bl))), ?_⟩)
  exact Fn.run (xs_law_good T) N_law_good h (fun as_ _ _ => by rw [fnm_law_good, fno_law_good]; exact (fnf_law_good T as_).symm)
theorem ok_law_lists (T : Tx K mg) : FnOk P w K mg base (L2.CX P w) 1 T.f_law_lists T.fd_law_lists ["many"] ((fn_law_lists T).sp K) := by
  refine T.F_law_lists.okX sc_law_lists (SpA.len fun x => by rw [List.length_map]; exact x.2.trans (fnm_law_lists T)) (fun cdv A outer s H vs Q E hr h => ⟨_, (pss_one (ps_ret (pe_lc (own := [("number", 1)]) (g := (gName 1)) rfl sc_law_lists.nd (pi_range1 (by rfl) T.z_range (pa_cons (pe_op op_shl pe_int (pv 0)) pa_nil)) (blkOk_by (N := N_law_lists) (sc := defScope s_law_lists) (by decide +kernel)) (fun _ _ _ _ _ => (pg_name (i := 1) sc_law_lists.nd rfl (by first | exact Or.inl rfl | exact Or.inr rfl))) (fun _ _ _ _ _ => pts_nil) (fun _ _ _ _ _ => (pe_lc (own := [("j", 2)]) (g := (gName 2)) rfl sc_law_lists.nd (pi_range1 (by rfl) T.z_range (pa_cons (pv 0) pa_nil)) (blkOk_by (by rfl)) (fun _ _ _ _ _ => (pg_name (i := 2) sc_law_lists.nd rfl (by first | exact Or.inl rfl | exact Or.inr rfl))) (fun _ _ _ _ _ => pts_nil) (fun _ _ _ _ _ => (pe_op op_and (pe_op op_shr (pv 1) (pe_op op_sub (pe_op op_sub (pv 0) pe_int) (pv 2))) pe_int))))))), ?_⟩)
  exact Fn.run (xs_law_lists T) N_law_lists h (fun as_ _ _ => by rw [fnm_law_lists, fno_law_lists]; exact (fnf_law_lists T as_).symm)
theorem ok_law_worth (T : Tx K mg) : FnOk P w K mg base (L2.CX P w) 1 T.f_law_worth T.fd_law_worth ["prices", "told"] ((fn_law_worth T).sp K) := by
  refine T.F_law_worth.okX sc_law_worth (SpA.len fun x => by rw [List.length_map]; exact x.2.trans (fnm_law_worth T)) (fun cdv A outer s H vs Q E hr h => ⟨_, (pss_one (ps_ret (pe_callB (kcall_sum K rfl) (by rfl) T.z_sum (by decide +kernel) (pa_cons (pe_lc (own := [("j", 2)]) (g := (gName 2)) rfl sc_law_worth.nd (pi_range1 (by rfl) T.z_range (pa_cons (pe_callB (kcall_len K) (by rfl) T.z_len PySem.boot_len (pa_cons (pv 1) pa_nil)) pa_nil)) (blkOk_by (N := N_law_worth) (sc := defScope s_law_worth) (by decide +kernel)) (fun _ _ _ _ _ => (pg_name (i := 2) sc_law_worth.nd rfl (by first | exact Or.inl rfl | exact Or.inr rfl))) (fun _ _ _ _ _ => pts_nil) (fun _ _ _ _ _ => (pe_op op_mulU (pe_ix (kix_list K) (pv 0) (pv 2) (fun _ _ => rfl)) (pe_ix (kix_list K) (pv 1) (pv 2) (fun _ _ => rfl))))) pa_nil)))), ?_⟩)
  exact Fn.run (xs_law_worth T) N_law_worth h (fun as_ _ _ => by rw [fnm_law_worth, fno_law_worth]; exact (fnf_law_worth T as_).symm)
theorem ok_law_fit (T : Tx K mg) : FnOk P w K mg base (L2.CX P w) 1 T.f_law_fit T.fd_law_fit ["rows", "weights"] ((fn_law_fit T).sp K) := by
  refine T.F_law_fit.okX sc_law_fit (SpA.len fun x => by rw [List.length_map]; exact x.2.trans (fnm_law_fit T)) (fun cdv A outer s H vs Q E hr h => ⟨_, (pss_cons (ps_if (pt_cmpR op_ne (pe_callB (kcall_len K) (by rfl) T.z_len PySem.boot_len (pa_cons (pv 1) pa_nil)) (pe_callB (kcall_len K) (by rfl) T.z_len PySem.boot_len (pa_cons (pv 0) pa_nil)) (nomark _))
        (pss_one (ps_ret pe_bl))
        pss_nil)
      (pss_cons (ps_for (passes_of rfl) rfl (pi_range1 (by rfl) T.z_range (pa_cons (pe_callB (kcall_len K) (by rfl) T.z_len PySem.boot_len (pa_cons (pv 0) pa_nil)) pa_nil)) (pg_name (i := 2) sc_law_fit.nd rfl (by first | exact Or.inl rfl | exact Or.inr rfl))
        (pss_one (ps_if (PW.pt (pw_or (PW.pt (pw_and (pt_cmpR op_eq (pe_ix (kix_tup K) (pe_ix (kix_list K) (pv 0) (pv 2) (fun _ _ => rfl)) pe_int (fun _ _ => rfl)) pe_str (nomark _)) (pw_and1 (pt_cmpR op_lt (pe_ix (kix_tup K) (pe_ix (kix_list K) (pv 1) (pv 2) (fun _ _ => rfl)) pe_int (fun _ _ => rfl)) pe_int (nomark _))))) (pw_or1 (PW.pt (pw_and (pt_cmpR op_eq (pe_ix (kix_tup K) (pe_ix (kix_list K) (pv 0) (pv 2) (fun _ _ => rfl)) pe_int (fun _ _ => rfl)) pe_str (nomark _)) (pw_and1 (pt_cmpR op_gt (pe_ix (kix_tup K) (pe_ix (kix_list K) (pv 1) (pv 2) (fun _ _ => rfl)) pe_int (fun _ _ => rfl)) pe_int (nomark _))))))))
        (pss_one (ps_ret pe_bl))
        pss_nil)))
      (pss_one (ps_ret pe_bl)))), ?_⟩)
  exact Fn.run (xs_law_fit T) N_law_fit h (fun as_ _ _ => by rw [fnm_law_fit, fno_law_fit]; exact (fnf_law_fit T as_).symm)
theorem ok_law_bound (T : Tx K mg) : FnOk P w K mg base (L2.CX P w) 5 T.f_law_bound T.fd_law_bound ["prices", "rows", "fixing", "weights"] ((fn_law_bound T).sp K) := by
  refine T.F_law_bound.okX sc_law_bound (SpA.len fun x => by rw [List.length_map]; exact x.2.trans (fnm_law_bound T)) (fun cdv A outer s H vs Q E hr h => ⟨_, (pss_cons (ps_set (i := 4) sc_law_bound.nd rfl (by first | exact Or.inl rfl | exact Or.inr rfl) (pe_call (ok_law_weighted T) (hr.mono (by decide)) (by rfl) T.g_law_weighted T.F_law_weighted.kp T.b_law_weighted .nil (passes_call (takes_of rfl rfl rfl rfl) fun _ _ _ _ z => z) (pa_cons (pe_lc (own := [("row", 8)]) (g := (gName 8)) rfl sc_law_bound.nd (kpi_list K (pv 1)) (blkOk_by (N := N_law_bound) (sc := defScope s_law_bound) (by decide +kernel)) (fun _ _ _ _ _ => (pg_name (i := 8) sc_law_bound.nd rfl (by first | exact Or.inl rfl | exact Or.inr rfl))) (fun _ _ _ _ _ => pts_nil) (fun _ _ _ _ _ => (pe_ix (kix_tup K) (pv 8) pe_int (fun _ _ => rfl)))) (pa_cons (pv 3) pa_nil))))
      (pss_cons (ps_for (passes_of rfl) rfl (pi_range1 (by rfl) T.z_range (pa_cons (pe_callB (kcall_len K) (by rfl) T.z_len PySem.boot_len (pa_cons (pv 0) pa_nil)) pa_nil)) (pg_name (i := 5) sc_law_bound.nd rfl (by first | exact Or.inl rfl | exact Or.inr rfl))
        (pss_cons (ps_set (i := 6) sc_law_bound.nd rfl (by first | exact Or.inl rfl | exact Or.inr rfl) (pe_call (ok_law_weighted T) (hr.mono (by decide)) (by rfl) T.g_law_weighted T.F_law_weighted.kp T.b_law_weighted .nil (passes_call (takes_of rfl rfl rfl rfl) fun _ _ _ _ z => z) (pa_cons (pe_lc (own := [("row", 8)]) (g := (gName 8)) rfl sc_law_bound.nd (kpi_list K (pv 1)) (blkOk_by (N := N_law_bound) (sc := defScope s_law_bound) (by decide +kernel)) (fun _ _ _ _ _ => (pg_name (i := 8) sc_law_bound.nd rfl (by first | exact Or.inl rfl | exact Or.inr rfl))) (fun _ _ _ _ _ => pts_nil) (fun _ _ _ _ _ => (pe_ix (kix_list K) (pe_ix (kix_tup K) (pv 8) pe_int (fun _ _ => rfl)) (pv 5) (fun _ _ => rfl)))) (pa_cons (pv 3) pa_nil))))
      (pss_cons (ps_set (i := 7) sc_law_bound.nd rfl (by first | exact Or.inl rfl | exact Or.inr rfl) (pe_call (ok_law_plus T) (hr.mono (by decide)) (by rfl) T.g_law_plus T.F_law_plus.kp T.b_law_plus .nil (passes_call (takes_of rfl rfl rfl rfl) fun _ _ _ _ z => z) (pa_cons (pe_tup (pa_cons (pe_ix (kix_list K) (pv 0) (pv 5) (fun _ _ => rfl)) (pa_cons pe_int pa_nil))) (pa_cons (pe_tup (pa_cons (pe_un un_neg (pe_ix (kix_tup K) (pv 6) pe_int (fun _ _ => rfl))) (pa_cons (pe_ix (kix_tup K) (pv 6) pe_int (fun _ _ => rfl)) pa_nil))) pa_nil))))
      (pss_one (ps_if (PW.pt (pw_or (pt_cmpR (kop_eqD K (Z.room64 hr)) (pe_ix (kix_list K) (pv 2) (pv 5) (fun _ _ => rfl)) pe_int (nomark _)) (pw_or1 (PW.pt (pw_and (pt_cmpR op_isN (pe_ix (kix_list K) (pv 2) (pv 5) (fun _ _ => rfl)) pe_non (nomark _)) (pw_and1 (pt_cmpR op_lt (pe_ix (kix_tup K) (pv 7) pe_int (fun _ _ => rfl)) pe_int (nomark _))))))))
        (pss_one (ps_set (i := 4) sc_law_bound.nd rfl (by first | exact Or.inl rfl | exact Or.inr rfl) (pe_call (ok_law_plus T) (hr.mono (by decide)) (by rfl) T.g_law_plus T.F_law_plus.kp T.b_law_plus .nil (passes_call (takes_of rfl rfl rfl rfl) fun _ _ _ _ z => z) (pa_cons (pv 4) (pa_cons (pv 7) pa_nil)))))
        pss_nil)))))
      (pss_one (ps_ret (pv 4))))), ?_⟩)
  exact Fn.run (xs_law_bound T) N_law_bound h (fun as_ _ _ => by rw [fnm_law_bound, fno_law_bound]; exact (fnf_law_bound T as_).symm)
theorem ok_law_shows_none (T : Tx K mg) : FnOk P w K mg base (L2.CX P w) 6 T.f_law_shows_none T.fd_law_shows_none ["prices", "rows", "fixing", "weights"] ((fn_law_shows_none T).sp K) := by
  refine T.F_law_shows_none.okX sc_law_shows_none (SpA.len fun x => by rw [List.length_map]; exact x.2.trans (fnm_law_shows_none T)) (fun cdv A outer s H vs Q E hr h => ⟨_, (pss_one (ps_ret (pe_and (pe_call (ok_law_fit T) (hr.mono (by decide)) (by rfl) T.g_law_fit T.F_law_fit.kp T.b_law_fit .nil (passes_call (takes_of rfl rfl rfl rfl) fun _ _ _ _ z => z) (pa_cons (pv 1) (pa_cons (pv 3) pa_nil))) (pe_one (pe_cmpR op_gt (pe_ix (kix_tup K) (pe_call (ok_law_bound T) (hr.mono (by decide)) (by rfl) T.g_law_bound T.F_law_bound.kp T.b_law_bound .nil (passes_call (takes_of rfl rfl rfl rfl) fun _ _ _ _ z => z) (pa_cons (pe_op op_rep (pe_lst (pa_cons pe_int pa_nil)) (pe_callB (kcall_len K) (by rfl) T.z_len PySem.boot_len (pa_cons (pv 0) pa_nil))) (pa_cons (pv 1) (pa_cons (pv 2) (pa_cons (pv 3) pa_nil))))) pe_int (fun _ _ => rfl)) pe_int (nomark _)))))), ?_⟩)
  exact Fn.run (xs_law_shows_none T) N_law_shows_none h (fun as_ _ _ => by rw [fnm_law_shows_none, fno_law_shows_none]; exact (fnf_law_shows_none T as_).symm)
theorem ok_law_closes (T : Tx K mg) : FnOk P w K mg base (L2.CX P w) 6 T.f_law_closes T.fd_law_closes ["prices", "rows", "fixing", "weights", "value", "told"] ((fn_law_closes T).sp K) := by
  refine T.F_law_closes.okX sc_law_closes (SpA.len fun x => by rw [List.length_map]; exact x.2.trans (fnm_law_closes T)) (fun cdv A outer s H vs Q E hr h => ⟨_, (pss_cons (ps_if (pt_not (pt_val (pe_call (ok_law_fit T) (hr.mono (by decide)) (by rfl) T.g_law_fit T.F_law_fit.kp T.b_law_fit .nil (passes_call (takes_of rfl rfl rfl rfl) fun _ _ _ _ z => z) (pa_cons (pv 1) (pa_cons (pv 3) pa_nil)))))
        (pss_one (ps_ret pe_bl))
        pss_nil)
      (pss_cons (ps_set (i := 6) sc_law_closes.nd rfl (by first | exact Or.inl rfl | exact Or.inr rfl) (pe_call (ok_law_bound T) (hr.mono (by decide)) (by rfl) T.g_law_bound T.F_law_bound.kp T.b_law_bound .nil (passes_call (takes_of rfl rfl rfl rfl) fun _ _ _ _ z => z) (pa_cons (pv 0) (pa_cons (pv 1) (pa_cons (pv 2) (pa_cons (pv 3) pa_nil))))))
      (pss_cons (ps_set (i := 7) sc_law_closes.nd rfl (by first | exact Or.inl rfl | exact Or.inr rfl) (pe_un un_neg (pe_op op_fdivW (pe_un un_neg (pe_ix (kix_tup K) (pv 6) pe_int (fun _ _ => rfl))) (pe_ix (kix_tup K) (pv 6) pe_int (fun _ _ => rfl)))))
      (pss_cons (ps_setLc (i := 8) (own := [("bit", 9)]) (g := (gName 9)) rfl sc_law_closes.nd rfl rfl (sw_true rfl rfl rfl (by decide +kernel)) (kpi_list K (pv 2)) (blkOk_by (N := N_law_closes) (sc := defScope s_law_closes) (by decide +kernel)) (fun _ _ _ _ _ => (pg_name (i := 9) sc_law_closes.nd rfl (by first | exact Or.inl rfl | exact Or.inr rfl))) (fun _ _ _ _ _ => pts_nil) (fun _ _ _ _ _ => (pe_callTy call_int1 (by rfl) T.z_int (by decide +kernel) (pa_cons (pe_cmpR (kop_eqD K (Z.room64 hr)) (pv 9) pe_int (nomark _)) pa_nil))))
      (pss_one (ps_ret (pe_or (pe_cmpR op_gt (pv 7) (pv 4) (nomark _)) (pe_one (pe_and (pe_cmpR op_eq (pv 7) (pv 4) (nomark _)) (pe_one (pe_cmpR (ZD.kop_geD K (Z.room64 hr)) (pv 8) (pv 5) (nomark _)))))))))))), ?_⟩)
  exact Fn.run (xs_law_closes T) N_law_closes h (fun as_ _ _ => by rw [fnm_law_closes, fno_law_closes]; exact (fnf_law_closes T as_).symm)
theorem ok_law_some (T : Tx K mg) : FnOk P w K mg base (L2.CX P w) 2 T.f_law_some T.fd_law_some ["numbers", "at", "k"] ((fn_law_some T).sp K) := by
  refine T.F_law_some.okX sc_law_some (SpA.len fun x => by rw [List.length_map]; exact x.2.trans (fnm_law_some T)) (fun cdv A outer s H vs Q E hr h => ⟨_, (pss_one (ps_ret (pe_call (ok_law_lowest T) (hr.mono (by decide)) (by rfl) T.g_law_lowest T.F_law_lowest.kp T.b_law_lowest .nil (passes_call (takes_of rfl rfl rfl rfl) fun _ _ _ _ z => z) (pa_cons (pe_op op_sub (pe_op op_mod (pe_callTy call_int1 (by rfl) T.z_int (by decide +kernel) (pa_cons (pe_ix (kix_list K) (pv 0) (pe_op op_add (pv 1) (pe_op op_mod (pe_callTy call_int1 (by rfl) T.z_int (by decide +kernel) (pa_cons (pv 2) pa_nil)) pe_int)) (fun _ _ => rfl)) pa_nil)) pe_int) pe_int) (pa_cons (pe_op op_add pe_int (pe_op op_mod (pe_op op_fdivW (pe_callTy call_int1 (by rfl) T.z_int (by decide +kernel) (pa_cons (pe_ix (kix_list K) (pv 0) (pe_op op_add (pv 1) (pe_op op_mod (pe_callTy call_int1 (by rfl) T.z_int (by decide +kernel) (pa_cons (pe_op op_add (pv 2) pe_int) pa_nil)) pe_int)) (fun _ _ => rfl)) pa_nil)) pe_int) pe_int)) pa_nil))))), ?_⟩)
  exact Fn.run (xs_law_some T) N_law_some h (fun as_ _ _ => by rw [fnm_law_some, fno_law_some]; exact (fnf_law_some T as_).symm)
theorem ok_law_refused (T : Tx K mg) : FnOk P w K mg base (L2.CX P w) 8 T.f_law_refused T.fd_law_refused ["way", "program", "fixing", "weights"] ((fn_law_refused T).sp K) := by
  refine T.F_law_refused.okX sc_law_refused (SpA.len fun x => by rw [List.length_map]; exact x.2.trans (fnm_law_refused T)) (fun cdv A outer s H vs Q E hr h => ⟨_, (pss_cons (ps_try_as (i := 4) rfl rfl sc_law_refused.nd rfl rfl ⟨rfl, by decide, .inl T.x_WebError.2.2.2.2⟩ (takes_of rfl rfl rfl rfl) (fun W pn xe tk hpx => (pss_one (ps_if (pt_cmpR op_eq (pv 0) pe_int (nomark _))
        (pss_one (ps_expr (pe_callS (ok_case_bound T) (hr.mono (by decide)) (by rfl) T.g_case_bound T.F_case_bound.kp T.b_case_bound (fun σ => passAt tk σ) (pa_cons (pv 1) (pa_cons (pv 2) (pa_cons (pv 3) pa_nil))))))
        (pss_one (ps_if (pt_cmpR op_eq (pv 0) pe_int (nomark _))
        (pss_one (ps_expr (pe_callS (ok_shows_none T) (hr.mono (by decide)) (by rfl) T.g_shows_none T.F_shows_none.kp T.b_shows_none (fun σ => passAt tk σ) (pa_cons (pv 1) (pa_cons (pv 2) (pa_cons (pv 3) pa_nil))))))
        (pss_one (ps_expr (pe_callS (ok_closes T) (hr.mono (by decide)) (by rfl) T.g_closes T.F_closes.kp T.b_closes (fun σ => passAt tk σ) (pa_cons (pv 1) (pa_cons (pv 2) (pa_cons (pv 3) (pa_cons pe_int (pa_cons (pe_lst pa_nil) pa_nil)))))))))))))
        (fun a oe cls d pn hz hf => (pss_one (ps_ret (pe_tup (pa_cons (pe_lst (pa_cons (pe_callB (call_isX hz hf) (by rfl) T.z_isinstance (by decide +kernel) (pa_cons (pv 4) (pa_cons (pe_glob (v := .ref T.c_TooMany) (by rfl) T.x_TooMany.2.2.2.2 rfl) pa_nil))) (pa_cons (pe_callB (call_isX hz hf) (by rfl) T.z_isinstance (by decide +kernel) (pa_cons (pv 4) (pa_cons (pe_glob (v := .ref T.c_WrongSize) (by rfl) T.x_WrongSize.2.2.2.2 rfl) pa_nil))) (pa_cons (pe_callB (call_isX hz hf) (by rfl) T.z_isinstance (by decide +kernel) (pa_cons (pv 4) (pa_cons (pe_glob (v := .ref T.c_BadFixing) (by rfl) T.x_BadFixing.2.2.2.2 rfl) pa_nil))) pa_nil)))) (pa_cons (pe_xg hz hf (pv 4)) pa_nil)))))))
      (pss_one (ps_ret pe_non))), ?_⟩)
  exact Fn.run (xs_law_refused T) N_law_refused h (fun as_ _ _ => by rw [fnm_law_refused, fno_law_refused]; exact (fnf_law_refused T as_).symm)
theorem ok_law_refusals (T : Tx K mg) : FnOk P w K mg base (L2.CX P w) 9 T.f_law_refusals T.fd_law_refusals ["numbers", "program", "fixing", "weights"] ((fn_law_refusals T).sp K) := by
  refine T.F_law_refusals.okX sc_law_refusals (SpA.len fun x => by rw [List.length_map]; exact x.2.trans (fnm_law_refusals T)) (fun cdv A outer s H vs Q E hr h => ⟨_, (pss_cons (ps_set (i := 4) sc_law_refusals.nd rfl (by first | exact Or.inl rfl | exact Or.inr rfl) (pe_make T.mk_Program (ok_Program___init__ T) (hr.mono (by decide)) (by rfl) T.g_Program T.b_Program___init__ .nil (passes_call (takes_of rfl rfl rfl rfl) fun _ _ _ _ z => z) (pa_cons (pe_op op_rep (pe_lst (pa_cons pe_int pa_nil)) (pe_op op_add pe_int (pe_op op_mod (pe_callTy call_int1 (by rfl) T.z_int (by decide +kernel) (pa_cons (pe_ix (kix_list K) (pv 0) pe_int (fun _ _ => rfl)) pa_nil)) pe_int))) (pa_cons (pe_lst pa_nil) pa_nil))))
      (pss_cons (ps_set (i := 5) sc_law_refusals.nd rfl (by first | exact Or.inl rfl | exact Or.inr rfl) (pe_op op_mod (pe_callTy call_int1 (by rfl) T.z_int (by decide +kernel) (pa_cons (pe_ix (kix_list K) (pv 0) pe_int (fun _ _ => rfl)) pa_nil)) (pe_callB (kcall_len K) (by rfl) T.z_len PySem.boot_len (pa_cons (pv 2) pa_nil))))
      (pss_cons (ps_set (i := 6) sc_law_refusals.nd rfl (by first | exact Or.inl rfl | exact Or.inr rfl) (pe_op op_cat (pe_op op_cat (pe_slice (ksl_list K) (pv 2) po_none (po_some (pv 5))) (pe_lst (pa_cons (pe_ix (kix_list K) (pe_lst (pa_cons pe_int (pa_cons (pe_un un_neg pe_int) (pa_cons pe_int pa_nil)))) (pe_op op_mod (pe_callTy call_int1 (by rfl) T.z_int (by decide +kernel) (pa_cons (pe_ix (kix_list K) (pv 0) pe_int (fun _ _ => rfl)) pa_nil)) pe_int) (fun _ _ => rfl)) pa_nil))) (pe_slice (ksl_list K) (pv 2) (po_some (pe_op op_add (pv 5) pe_int)) po_none)))
      (pss_cons (ps_for (passes_of rfl) rfl (pi_range1 (by rfl) T.z_range (pa_cons pe_int pa_nil)) (pg_name (i := 7) sc_law_refusals.nd rfl (by first | exact Or.inl rfl | exact Or.inr rfl))
        (pss_cons (ps_if (pt_cmpR (kop_neD K (Z.room64 hr)) (pe_call (ok_law_refused T) (hr.mono (by decide)) (by rfl) T.g_law_refused T.F_law_refused.kp T.b_law_refused .nil (passes_call (takes_of rfl rfl rfl rfl) fun _ _ _ _ z => z) (pa_cons (pv 7) (pa_cons (pv 4) (pa_cons (pv 6) (pa_cons (pe_lst pa_nil) pa_nil))))) (pe_tup (pa_cons (pe_lst (pa_cons pe_bl (pa_cons pe_bl (pa_cons pe_bl pa_nil)))) (pa_cons (pe_meth0 (pv 4) T.cl_Program T.m_Program_count (ok_Program_count T) (hr.mono (by decide)) T.b_Program_count .nil (passes_call (takes_of rfl rfl rfl rfl) fun _ _ _ _ z => z)) pa_nil))) (nomark _))
        (pss_one (ps_ret pe_bl))
        pss_nil)
      (pss_cons (ps_if (pt_cmpR (kop_neD K (Z.room64 hr)) (pe_call (ok_law_refused T) (hr.mono (by decide)) (by rfl) T.g_law_refused T.F_law_refused.kp T.b_law_refused .nil (passes_call (takes_of rfl rfl rfl rfl) fun _ _ _ _ z => z) (pa_cons (pv 7) (pa_cons (pv 1) (pa_cons (pe_op op_cat (pv 6) (pe_lst (pa_cons pe_int pa_nil))) (pa_cons (pv 3) pa_nil))))) (pe_tup (pa_cons (pe_lst (pa_cons pe_bl (pa_cons pe_bl (pa_cons pe_bl pa_nil)))) (pa_cons pe_int pa_nil))) (nomark _))
        (pss_one (ps_ret pe_bl))
        pss_nil)
      (pss_one (ps_if (pt_cmpR (kop_neD K (Z.room64 hr)) (pe_call (ok_law_refused T) (hr.mono (by decide)) (by rfl) T.g_law_refused T.F_law_refused.kp T.b_law_refused .nil (passes_call (takes_of rfl rfl rfl rfl) fun _ _ _ _ z => z) (pa_cons (pv 7) (pa_cons (pv 1) (pa_cons (pv 6) (pa_cons (pe_op op_cat (pv 3) (pe_lst (pa_cons (pe_tup (pa_cons pe_int (pa_cons pe_int pa_nil))) pa_nil))) pa_nil))))) (pe_tup (pa_cons (pe_lst (pa_cons pe_bl (pa_cons pe_bl (pa_cons pe_bl pa_nil)))) (pa_cons (pv 5) pa_nil))) (nomark _))
        (pss_one (ps_ret pe_bl))
        pss_nil)))))
      (pss_one (ps_ret (pe_cmpR (kop_eqD K (Z.room64 hr)) (pe_call (ok_law_refused T) (hr.mono (by decide)) (by rfl) T.g_law_refused T.F_law_refused.kp T.b_law_refused .nil (passes_call (takes_of rfl rfl rfl rfl) fun _ _ _ _ z => z) (pa_cons pe_int (pa_cons (pv 1) (pa_cons (pv 2) (pa_cons (pe_op op_cat (pv 3) (pe_lst (pa_cons (pe_tup (pa_cons pe_int (pa_cons pe_int pa_nil))) pa_nil))) pa_nil))))) (pe_tup (pa_cons (pe_lst (pa_cons pe_bl (pa_cons pe_bl (pa_cons pe_bl pa_nil)))) (pa_cons pe_int pa_nil))) (nomark _)))))))), ?_⟩)
  exact Fn.run (xs_law_refusals T) N_law_refusals h (fun as_ _ _ => by rw [fnm_law_refusals, fno_law_refusals]; exact (fnf_law_refusals T as_).symm)
theorem ok_law_true (T : Tx K mg) : FnOk P w K mg base (L2.CX P w) 7 T.f_law_true T.fd_law_true ["rows", "prices", "fixing", "weights", "value", "told"] ((fn_law_true T).sp K) := by
  refine T.F_law_true.okX sc_law_true (SpA.len fun x => by rw [List.length_map]; exact x.2.trans (fnm_law_true T)) (fun cdv A outer s H vs Q E hr h => ⟨_, (pss_cons (ps_set (i := 6) sc_law_true.nd rfl (by first | exact Or.inl rfl | exact Or.inr rfl) (pe_lst pa_nil))
      (pss_cons (ps_for (passes_of rfl) rfl (kpi_list K (pe_call (ok_law_lists T) (hr.mono (by decide)) (by rfl) T.g_law_lists T.F_law_lists.kp T.b_law_lists .nil (passes_call (takes_of rfl rfl rfl rfl) fun _ _ _ _ z => z) (pa_cons (pe_callB (kcall_len K) (by rfl) T.z_len PySem.boot_len (pa_cons (pv 1) pa_nil)) pa_nil))) (pg_name (i := 7) sc_law_true.nd rfl (by first | exact Or.inl rfl | exact Or.inr rfl))
        (pss_one (ps_if (PW.pt (pw_and (pt_val (pe_call (ok_law_good T) (hr.mono (by decide)) (by rfl) T.g_law_good T.F_law_good.kp T.b_law_good .nil (passes_call (takes_of rfl rfl rfl rfl) fun _ _ _ _ z => z) (pa_cons (pv 0) (pa_cons (pv 7) pa_nil)))) (pw_and1 (pt_val (pe_callB (kcall_all K rfl) (by rfl) T.z_all (by decide +kernel) (pa_cons (pe_lc (own := [("j", 10)]) (g := (gName 10)) rfl sc_law_true.nd (pi_range1 (by rfl) T.z_range (pa_cons (pe_callB (kcall_len K) (by rfl) T.z_len PySem.boot_len (pa_cons (pv 7) pa_nil)) pa_nil)) (blkOk_by (N := N_law_true) (sc := defScope s_law_true) (by decide +kernel)) (fun _ _ _ _ _ => (pg_name (i := 10) sc_law_true.nd rfl (by first | exact Or.inl rfl | exact Or.inr rfl))) (fun _ _ _ _ _ => pts_nil) (fun _ _ _ _ _ => (pe_or (pe_cmpR op_isN (pe_ix (kix_list K) (pv 2) (pv 10) (fun _ _ => rfl)) pe_non (nomark _)) (pe_one (pe_cmpR (kop_eqD K (Z.room64 hr)) (pe_ix (kix_list K) (pv 2) (pv 10) (fun _ _ => rfl)) (pe_ix (kix_list K) (pv 7) (pv 10) (fun _ _ => rfl)) (nomark _)))))) pa_nil))))))
        (pss_one (ps_expr (pe_bm PySem.F.plainAttrs_list PySem.F.slot_list_append PySem.F.type_list_append mt_append (pv 6) (pa_cons (pe_tup (pa_cons (pe_call (ok_law_worth T) (hr.mono (by decide)) (by rfl) T.g_law_worth T.F_law_worth.kp T.b_law_worth .nil (passes_call (takes_of rfl rfl rfl rfl) fun _ _ _ _ z => z) (pa_cons (pv 1) (pa_cons (pv 7) pa_nil))) (pa_cons (pv 7) pa_nil))) pa_nil))))
        pss_nil)))
      (pss_cons (ps_if (pt_not (pt_val (pe_call (ok_law_fit T) (hr.mono (by decide)) (by rfl) T.g_law_fit T.F_law_fit.kp T.b_law_fit .nil (passes_call (takes_of rfl rfl rfl rfl) fun _ _ _ _ z => z) (pa_cons (pv 0) (pa_cons (pv 3) pa_nil)))))
        (pss_one (ps_ret pe_bl))
        pss_nil)
      (pss_cons (ps_set (i := 8) sc_law_true.nd rfl (by first | exact Or.inl rfl | exact Or.inr rfl) (pe_call (ok_law_bound T) (hr.mono (by decide)) (by rfl) T.g_law_bound T.F_law_bound.kp T.b_law_bound .nil (passes_call (takes_of rfl rfl rfl rfl) fun _ _ _ _ z => z) (pa_cons (pv 1) (pa_cons (pv 0) (pa_cons (pv 2) (pa_cons (pv 3) pa_nil))))))
      (pss_cons (ps_if (pt_cmpR op_gt (pe_callB (kcall_len K) (by rfl) T.z_len PySem.boot_len (pa_cons (pe_lc (own := [("worth", 9), ("one", 7)]) (g := (gTup K 2 (gCons (gName 9) (gCons (gName 7) gNil)))) rfl sc_law_true.nd (kpi_list K (pv 6)) (blkOk_by (N := N_law_true) (sc := defScope s_law_true) (by decide +kernel)) (fun _ _ _ _ _ => (kpg_tup K (n := 2) rfl (pgs_cons (pg_name (i := 9) sc_law_true.nd rfl (by first | exact Or.inl rfl | exact Or.inr rfl)) (pgs_cons (pg_name (i := 7) sc_law_true.nd rfl (by first | exact Or.inl rfl | exact Or.inr rfl)) pgs_nil)))) (fun _ _ _ _ _ => (pts_one (pt_cmpR op_lt (pe_op op_mulU (pv 9) (pe_ix (kix_tup K) (pv 8) pe_int (fun _ _ => rfl))) (pe_ix (kix_tup K) (pv 8) pe_int (fun _ _ => rfl)) (nomark _)))) (fun _ _ _ _ _ => pe_int)) pa_nil)) pe_int (nomark _))
        (pss_one (ps_ret pe_bl))
        pss_nil)
      (pss_cons (ps_if (PW.pt (pw_and (pt_val (pe_call (ok_law_shows_none T) (hr.mono (by decide)) (by rfl) T.g_law_shows_none T.F_law_shows_none.kp T.b_law_shows_none .nil (passes_call (takes_of rfl rfl rfl rfl) fun _ _ _ _ z => z) (pa_cons (pv 1) (pa_cons (pv 0) (pa_cons (pv 2) (pa_cons (pv 3) pa_nil)))))) (pw_and1 (pt_cmpR op_gt (pe_callB (kcall_len K) (by rfl) T.z_len PySem.boot_len (pa_cons (pv 6) pa_nil)) pe_int (nomark _)))))
        (pss_one (ps_ret pe_bl))
        pss_nil)
      (pss_one (ps_ret (pe_or (pe_not (pe_call (ok_law_closes T) (hr.mono (by decide)) (by rfl) T.g_law_closes T.F_law_closes.kp T.b_law_closes .nil (passes_call (takes_of rfl rfl rfl rfl) fun _ _ _ _ z => z) (pa_cons (pv 1) (pa_cons (pv 0) (pa_cons (pv 2) (pa_cons (pv 3) (pa_cons (pv 4) (pa_cons (pv 5) pa_nil)))))))) (pe_one (pe_cmpR op_eq (pe_callB (kcall_len K) (by rfl) T.z_len PySem.boot_len (pa_cons (pe_lc (own := [("one", 7)]) (g := (gName 7)) rfl sc_law_true.nd (kpi_list K (pv 6)) (blkOk_by (N := N_law_true) (sc := defScope s_law_true) (by decide +kernel)) (fun _ _ _ _ _ => (pg_name (i := 7) sc_law_true.nd rfl (by first | exact Or.inl rfl | exact Or.inr rfl))) (fun _ _ _ _ _ => (pts_one (pt_cmpR (ZD.kop_ltD K (Z.room64 hr)) (pv 7) (pe_tup (pa_cons (pv 4) (pa_cons (pv 5) pa_nil))) (nomark _)))) (fun _ _ _ _ _ => pe_int)) pa_nil)) pe_int (nomark _)))))))))))), ?_⟩)
  exact Fn.run (xs_law_true T) N_law_true h (fun as_ _ _ => by rw [fnm_law_true, fno_law_true]; exact (fnf_law_true T as_).symm)
end
end Q

/-! fractions in lowest terms: plain mathematics -/
set_option linter.all false
namespace QF
def gI (p q : Int) : Int := ((Nat.gcd p.natAbs q.natAbs : Nat) : Int)
theorem gI_dl (p q : Int) : gI p q ∣ p := Int.natAbs_dvd_natAbs.mp (by show (gI p q).natAbs ∣ _; unfold gI; rw [Int.natAbs_natCast]; exact Nat.gcd_dvd_left _ _)
theorem gI_dr (p q : Int) : gI p q ∣ q := Int.natAbs_dvd_natAbs.mp (by show (gI p q).natAbs ∣ _; unfold gI; rw [Int.natAbs_natCast]; exact Nat.gcd_dvd_right _ _)
theorem gI_pos {p q : Int} (h : q ≠ 0) : 0 < gI p q := by
  unfold gI
  have : 0 < Nat.gcd p.natAbs q.natAbs := Nat.gcd_pos_of_pos_right _ (Int.natAbs_pos.mpr h)
  omega
theorem gI_le {p q : Int} (h : q ≠ 0) : gI p q ≤ (q.natAbs : Int) := by
  unfold gI
  have : Nat.gcd p.natAbs q.natAbs ≤ q.natAbs := Nat.le_of_dvd (Int.natAbs_pos.mpr h) (Nat.gcd_dvd_right _ _)
  omega
/-- p / q in lowest terms, the denominator above 0 -/
def low (p q : Int) : Int × Int := if q < 0 then (-p / gI p q, -q / gI p q) else (p / gI p q, q / gI p q)
structure IsF (x : Int × Int) : Prop where
  pos : 0 < x.2
  cop : Nat.gcd x.1.natAbs x.2.natAbs = 1
theorem low_val {p q : Int} (h : q ≠ 0) : (low p q).1 * q = p * (low p q).2 := by
  obtain ⟨a, ha⟩ := gI_dl p q
  obtain ⟨b, hb⟩ := gI_dr p q
  have g0 := gI_pos (p := p) h
  have hg : gI p q ≠ 0 := by omega
  unfold low
  generalize gI p q = g at *
  split
  · show -p / g * q = p * (-q / g)
    have e1 : -p / g = -a := by rw [ha, ← Int.mul_neg, Int.mul_ediv_cancel_left _ hg]
    have e2 : -q / g = -b := by rw [hb, ← Int.mul_neg, Int.mul_ediv_cancel_left _ hg]
    rw [e1, e2, ha, hb]
    grind
  · show p / g * q = p * (q / g)
    have e1 : p / g = a := by rw [ha, Int.mul_ediv_cancel_left _ hg]
    have e2 : q / g = b := by rw [hb, Int.mul_ediv_cancel_left _ hg]
    rw [e1, e2, ha, hb]
    grind
theorem low_is {p q : Int} (h : q ≠ 0) : IsF (low p q) := by
  have g0 := gI_pos (p := p) h
  have hd1 := gI_dl p q
  have hd2 := gI_dr p q
  have hgcd : ∀ x y : Int, x.natAbs = p.natAbs → y.natAbs = q.natAbs → Nat.gcd (x / gI p q).natAbs (y / gI p q).natAbs = 1 := by
    intro x y hx hy
    have dx : gI p q ∣ x := Int.natAbs_dvd_natAbs.mp (by rw [hx]; exact Int.natAbs_dvd_natAbs.mpr hd1)
    have dy : gI p q ∣ y := Int.natAbs_dvd_natAbs.mp (by rw [hy]; exact Int.natAbs_dvd_natAbs.mpr hd2)
    rw [Int.natAbs_ediv_of_dvd dx, Int.natAbs_ediv_of_dvd dy, hx, hy]
    have : (gI p q).natAbs = Nat.gcd p.natAbs q.natAbs := by unfold gI; rw [Int.natAbs_natCast]
    rw [this]
    exact Nat.coprime_div_gcd_div_gcd (Nat.gcd_pos_of_pos_right _ (Int.natAbs_pos.mpr h))
  unfold low
  split
  · refine ⟨?_, hgcd _ _ (Int.natAbs_neg _) (Int.natAbs_neg _)⟩
    show 0 < -q / gI p q
    have d : gI p q ∣ -q := (Int.dvd_neg).mpr hd2
    exact Int.ediv_pos_of_pos_of_dvd (by omega) (by omega) d
  · refine ⟨?_, hgcd _ _ rfl rfl⟩
    show 0 < q / gI p q
    exact Int.ediv_pos_of_pos_of_dvd (by omega) (by omega) hd2
theorem isF_ext {x y : Int × Int} (hx : IsF x) (hy : IsF y) (h : x.1 * y.2 = y.1 * x.2) : x = y := by
  have hn : x.1.natAbs * y.2.natAbs = y.1.natAbs * x.2.natAbs := by rw [← Int.natAbs_mul, ← Int.natAbs_mul, h]
  have d1 : x.2.natAbs ∣ y.2.natAbs := Nat.Coprime.dvd_of_dvd_mul_left (k := x.2.natAbs) (m := x.1.natAbs) (by rw [Nat.coprime_comm]; exact hx.cop) ⟨y.1.natAbs, by rw [hn, Nat.mul_comm]⟩
  have d2 : y.2.natAbs ∣ x.2.natAbs := Nat.Coprime.dvd_of_dvd_mul_left (k := y.2.natAbs) (m := y.1.natAbs) (by rw [Nat.coprime_comm]; exact hy.cop) ⟨x.1.natAbs, by rw [← hn, Nat.mul_comm]⟩
  have e := Nat.dvd_antisymm d1 d2
  have p1 := hx.pos
  have p2 := hy.pos
  have e2 : x.2 = y.2 := by omega
  have e1 : x.1 = y.1 := by
    rw [e2] at h
    exact Int.eq_of_mul_eq_mul_right (by omega) h
  exact Prod.ext e1 e2
theorem low_ext {p q p' q' : Int} (h : q ≠ 0) (h' : q' ≠ 0) (e : p * q' = p' * q) : low p q = low p' q' := by
  refine isF_ext (low_is h) (low_is h') ?_
  have v1 := low_val (p := p) h
  have v2 := low_val (p := p') h'
  refine Int.eq_of_mul_eq_mul_right h (Int.eq_of_mul_eq_mul_right h' ?_)
  generalize (low p q).1 = a at *
  generalize (low p q).2 = b at *
  generalize (low p' q').1 = c at *
  generalize (low p' q').2 = d at *
  calc a * d * q * q' = (a * q) * (d * q') := by grind
    _ = p * b * (d * q') := by rw [v1]
    _ = (p * q') * (b * d) := by grind
    _ = (p' * q) * (b * d) := by rw [e]
    _ = (p' * d) * (b * q) := by grind
    _ = (c * q') * (b * q) := by rw [v2]
    _ = c * b * q * q' := by grind
theorem low_self {x : Int × Int} (h : IsF x) : low x.1 x.2 = x := by
  have hp := h.pos
  exact isF_ext (low_is (by omega)) h (low_val (by omega))
theorem low_eq_iff {p q : Int} (h : 0 < q) : low p q = (p, q) ↔ Nat.gcd p.natAbs q.natAbs = 1 := by
  constructor
  · intro e
    have := low_is (p := p) (q := q) (by omega)
    rw [e] at this
    exact this.cop
  · intro e
    exact low_self (x := (p, q)) ⟨h, e⟩
theorem ediv_abs {a g : Int} (hg : 0 < g) (hd : g ∣ a) : (a / g).natAbs ≤ a.natAbs := by
  rw [Int.natAbs_ediv_of_dvd hd]
  exact Nat.div_le_self _ _
theorem low_bd1 {p q : Int} (h : q ≠ 0) : (low p q).1.natAbs ≤ p.natAbs := by
  have g0 := gI_pos (p := p) h
  unfold low
  split
  · refine Nat.le_trans (ediv_abs g0 ((Int.dvd_neg).mpr (gI_dl p q))) ?_
    rw [Int.natAbs_neg]; exact Nat.le_refl _
  · exact ediv_abs g0 (gI_dl p q)
theorem low_bd2 {p q : Int} (h : q ≠ 0) : (low p q).2.natAbs ≤ q.natAbs := by
  have g0 := gI_pos (p := p) h
  unfold low
  split
  · refine Nat.le_trans (ediv_abs g0 ((Int.dvd_neg).mpr (gI_dr p q))) ?_
    rw [Int.natAbs_neg]; exact Nat.le_refl _
  · exact ediv_abs g0 (gI_dr p q)
/-- the program's way: both divided by the common divisor with the denominator's sign -/
theorem low_fdiv {p q : Int} (h : q ≠ 0) : (p.fdiv (if q < 0 then -gI p q else gI p q), q.fdiv (if q < 0 then -gI p q else gI p q)) = low p q := by
  have g0 := gI_pos (p := p) h
  have d1 := gI_dl p q
  have d2 := gI_dr p q
  unfold low
  split
  · rw [Int.fdiv_eq_ediv_of_dvd ((Int.neg_dvd).mpr d1), Int.fdiv_eq_ediv_of_dvd ((Int.neg_dvd).mpr d2), Int.ediv_neg, Int.ediv_neg, Int.neg_ediv_of_dvd d1, Int.neg_ediv_of_dvd d2]
  · rw [Int.fdiv_eq_ediv_of_dvd d1, Int.fdiv_eq_ediv_of_dvd d2]
/-! Euclid -/
def euc : Nat → Nat → Nat → Nat × Nat
  | 0, a, b => (a, b)
  | n + 1, a, b => if b = 0 then (a, b) else euc n b (a % b)
theorem euc_done : ∀ (m n a b : Nat), b < 2 ^ m → 2 * m + 1 ≤ n → euc n a b = (Nat.gcd a b, 0)
  | 0, n, a, b, hb, hn => by
    have : b = 0 := by simpa using hb
    subst this
    match n, hn with
    | n + 1, _ => unfold euc; rw [if_pos rfl, Nat.gcd_zero_right]
  | m + 1, n, a, b, hb, hn => by
    match n, hn with
    | n + 2, hn =>
      unfold euc
      by_cases h0 : b = 0
      · rw [if_pos h0, h0, Nat.gcd_zero_right]
      · rw [if_neg h0]
        have hc : a % b < b := Nat.mod_lt _ (by omega)
        unfold euc
        by_cases h1 : a % b = 0
        · rw [if_pos h1, h1]
          have : Nat.gcd a b = b := by rw [Nat.gcd_comm, Nat.gcd_rec, h1, Nat.gcd_zero_left]
          rw [this]
        · rw [if_neg h1]
          have hd : b % (a % b) < a % b := Nat.mod_lt _ (by omega)
          have hd2 : b % (a % b) + (a % b) ≤ b := by
            have := Nat.div_add_mod b (a % b)
            have hq : 1 ≤ b / (a % b) := (Nat.one_le_div_iff (by omega)).mpr (by omega)
            have : (a % b) * 1 ≤ (a % b) * (b / (a % b)) := Nat.mul_le_mul_left _ hq
            omega
          rw [euc_done m n (a % b) (b % (a % b)) (by rw [Nat.pow_succ] at hb; omega) (by omega)]
          have e1 : Nat.gcd a b = Nat.gcd (a % b) (b % (a % b)) := by
            rw [Nat.gcd_comm a b, Nat.gcd_rec b a, Nat.gcd_rec (a % b) b, Nat.gcd_comm]
          rw [e1]
end QF

set_option Elab.async false
set_option linter.all false
set_option maxRecDepth 100000
set_option maxHeartbeats 4000000
namespace Q
open PySem PySem.Spec PyProof.Rows L2 Z R
/-! the numbers that a script gives -/
structure Nums (ns : List Int) (many : Nat) : Prop where
  len : ns.length = many
  bd : ∀ x ∈ ns, 0 ≤ x ∧ x < 65536
theorem cut63 {xs : List Int} (hx : xs.length ≤ 63) : cutT xs none (some 63) = xs := by
  unfold cutT
  rw [HT.sIx_none, show (some (63 : Int)) = some ((63 : Nat) : Int) from rfl, HT.sIx_nat, List.drop_zero, List.take_of_length_le (by omega)]
theorem numbers_ok {xs : List Int} (hx : xs.length ≤ 63) {many : Nat} (hm : many ≤ 100000) : ∃ ns, Nums ns many ∧ m_law_numbers xs (many : Int) = .ok ns := by
  unfold m_law_numbers
  rw [cut63 hx, lc_ok iabs (by omega) fun _ _ => rfl, ok_bind, cat_ok (by rw [List.length_map]; simp; omega), ok_bind]
  obtain ⟨rest, h1, h2, e⟩ : ∃ rest, 0 < rest.length ∧ rest.length ≤ 64 ∧ (if decide (lenI xs > 0) = true then (Rs.ok (cutT (xs.map iabs ++ [0]) none (some (-1)))).bind fun r => Rs.ok r else Rs.ok (xs.map iabs ++ [0])) = Rs.ok rest := by
    by_cases h0 : xs.length = 0
    · have : xs = [] := List.eq_nil_of_length_eq_zero h0
      subst this
      exact ⟨[0], by decide, by decide, rfl⟩
    · have h1 : decide (lenI xs > 0) = true := by unfold lenI; exact decide_eq_true (by omega)
      rw [if_pos h1]
      have hl : (cutT (xs.map iabs ++ [0]) none (some (-1))).length = xs.length := by
        unfold cutT
        rw [HT.sIx_none, List.drop_zero, List.length_take]
        unfold HT.sIx
        simp
        omega
      exact ⟨_, by rw [hl]; omega, by rw [hl]; omega, rfl⟩
  rw [e, ok_bind]
  rw [lc_ok (fun c => (c * 48271 + 11) % 2147483647) (by omega) fun _ _ => rfl, qu_ok, ok_bind, ok_bind, rng_up (by omega), ok_bind]
  obtain ⟨s, hs, i1, i2, i3, i4⟩ := for_upto (n := many) (f := fun (k : Int) (s : (List Int) × (List Int) × (List Int)) =>
  (((modC k (lenI s.1))).bind fun at' =>
  ((((ixC s.1 at')).bind fun u1 => Rs.ok (decide (u1 ≥ 1000000000000000000))).bind fun c => if c = true then
  (((((ixC s.1 at')).bind fun u2 => Rs.ok u2).bind fun u3 => Rs.ok (u3 % 65536)).bind fun u_ => (pushC s.2.2 u_).bind fun numbers1 =>
  ((((ixC s.1 at')).bind fun u4 => Rs.ok (u4 / 65536)).bind fun u_ => (qu (Rs.ok at')).bind fun z_ => (setC s.1 z_ u_).bind fun rest3 =>
  (Rs.ok (rest3, s.2.1, numbers1))))
  else ((((((((ixC s.2.1 at')).bind fun u5 => Rs.ok (u5 * 16807)).bind fun u6 => Rs.ok (u6 + 12345)).bind fun u7 => Rs.ok (u7 + (7919 * k))).bind fun u8 => Rs.ok u8).bind fun u9 => Rs.ok (u9 % 2147483647)).bind fun u_ => (qu (Rs.ok at')).bind fun z_ => (setC s.2.1 z_ u_).bind fun mixed1 =>
  ((((((ixC s.1 at')).bind fun u11 => (((ixC mixed1 at')).bind fun u10 => Rs.ok (u10 / 5)).bind fun u12 => Rs.ok (u11 + u12)).bind fun u13 => Rs.ok u13).bind fun u14 => Rs.ok (u14 % 65536)).bind fun u_ => (pushC s.2.2 u_).bind fun numbers2 =>
  (Rs.ok (s.1, mixed1, numbers2))))))) (fun k s => s.1.length = rest.length ∧ s.2.1.length = rest.length ∧ s.2.2.length = k ∧ ∀ x ∈ s.2.2, 0 ≤ x ∧ x < 65536) (s := (rest, rest.map fun c => (c * 48271 + 11) % 2147483647, [])) ⟨rfl, by simp, rfl, fun x h => nomatch h⟩ (by
    intro k s hk ⟨j1, j2, j3, j4⟩
    obtain ⟨r, m, n⟩ := s
    replace j1 : r.length = rest.length := j1
    replace j2 : m.length = rest.length := j2
    replace j3 : n.length = k := j3
    replace j4 : ∀ x ∈ n, 0 ≤ x ∧ x < 65536 := j4
    have hpos : (0 : Int) < lenI r := by unfold lenI; omega
    have a0 : 0 ≤ (k : Int) % lenI r := Int.emod_nonneg _ (by omega)
    have a1 : (k : Int) % lenI r < lenI r := Int.emod_lt_of_pos _ hpos
    have a2 : (k : Int) % lenI r < r.length := a1
    show ∃ s', ((modC (k : Int) (lenI r)).bind _) = _ ∧ _
    rw [mod_ok hpos, ok_bind]
    generalize (k : Int) % lenI r = at' at *
    have e1 := ix_d (xs := r) (0 : Int) a0 a2
    have e2 := ix_d (xs := m) (0 : Int) a0 (by omega)
    have hp : ∀ z : Int, 0 ≤ z % 65536 ∧ z % 65536 < 65536 := fun z => ⟨Int.emod_nonneg _ (by decide), Int.emod_lt_of_pos _ (by decide)⟩
    have hq : ∀ z : Int, ∀ x ∈ n ++ [z % 65536], 0 ≤ x ∧ x < 65536 := by
      intro z x hx
      rcases List.mem_append.mp hx with h | h
      · exact j4 x h
      · rw [List.mem_singleton.mp h]; exact hp z
    by_cases hc : r.getD at'.toNat 0 ≥ 1000000000000000000
    · refine ⟨(r.set at'.toNat (r.getD at'.toNat 0 / 65536), m, n ++ [r.getD at'.toNat 0 % 65536]), ?_, by simp [j1], j2, by simp [j3], hq _⟩
      simp only [e1, ok_bind, qu_ok, decide_eq_true hc, if_true]
      rw [push_ok (by omega), ok_bind, set_ok a0 a2, ok_bind]
    · have e3 : ∀ z, ixC (m.set at'.toNat z) at' = .ok ((m.set at'.toNat z).getD at'.toNat 0) := fun z => ix_d (0 : Int) a0 (by rw [List.length_set]; omega)
      refine ⟨(r, m.set at'.toNat ((m.getD at'.toNat 0 * 16807 + 12345 + 7919 * k) % 2147483647), n ++ [(r.getD at'.toNat 0 + (m.set at'.toNat ((m.getD at'.toNat 0 * 16807 + 12345 + 7919 * k) % 2147483647)).getD at'.toNat 0 / 5) % 65536]), ?_, j1, by simp [j2], by simp [j3], hq _⟩
      simp only [e1, e2, ok_bind, qu_ok, decide_eq_false hc, Bool.false_eq_true, if_false]
      rw [set_ok a0 (by omega), ok_bind]
      simp only [e3, ok_bind]
      rw [push_ok (by omega), ok_bind])
  exact ⟨s.2.2, ⟨i3, i4⟩, by rw [hs]; rfl⟩
theorem Nums.at_ {ns : List Int} {many : Nat} (h : Nums ns many) {i : Int} (h0 : 0 ≤ i) (h1 : i < many) : ∃ v, ixC ns i = .ok v ∧ 0 ≤ v ∧ v < 65536 := by
  have := h.len
  refine ⟨_, ix_d (0 : Int) h0 (by omega), ?_⟩
  exact h.bd _ (gD_mem (by omega))
end Q

set_option Elab.async false
set_option linter.all false
set_option maxRecDepth 100000
set_option maxHeartbeats 4000000
namespace Q
open PySem PySem.Spec PyProof.Rows L2 Z R QF
variable {K : PySem.W.Frag} {mg : Str → Option Value} (T : Tx K mg)
/-! fractions in the program, and in the law -/
theorem fraction_ok {p q : Int} (h : q ≠ 0) (hb : q.natAbs < 18446744073709551616) : m_fraction T p q = .ok (low p q) := by
  unfold m_fraction
  rw [if_neg (by simpa using h), ok_bind]
  have hg : ((Int.gcd p q : Nat) : Int) = gI p q := rfl
  have g0 := gI_pos (p := p) h
  have g1 := gI_le (p := p) h
  rw [hg]
  rw [← low_fdiv h]
  by_cases hq : q < 0
  · rw [if_pos (decide_eq_true hq), ok_bind, ok_bind, divU_ok (by omega) (by omega), ok_bind, divU_ok (by omega) (by omega), ok_bind]
    simp only [if_pos hq]
  · rw [if_neg (by simpa using hq), ok_bind, divU_ok (by omega) (by omega), ok_bind, divU_ok (by omega) (by omega), ok_bind]
    simp only [if_neg hq]
theorem iabs_nat (a : Int) : iabs a = (a.natAbs : Int) := by unfold iabs; split <;> omega
theorem euc_for : ∀ (xs : List Int) (a b : Nat), forJ (β := Int × Int) (fun (turn : Int) (s1 : Int × Int) =>
  (if (decide (s1.2 = 0)) = true then
  (Rs.ok (LO.bk (s1.1, s1.2)))
  else (((modC s1.1 s1.2)).bind fun two =>
  (Rs.ok (LO.nx (s1.2, two)))))) xs ((a : Int), (b : Int)) = .ok (.nx (((euc xs.length a b).1 : Int), ((euc xs.length a b).2 : Int)))
  | [], a, b => rfl
  | x :: xs, a, b => by
    rw [forJ]
    show Rs.bind (if decide ((b : Int) = 0) = true then _ else _) _ = _
    by_cases h : b = 0
    · rw [if_pos (decide_eq_true (by omega)), ok_bind]
      rw [show (x :: xs).length = xs.length + 1 from rfl, euc, if_pos h]
    · rw [if_neg (by simpa using h), mod_ok (show (0 : Int) < ((a : Int), (b : Int)).2 by show (0 : Int) < (b : Int); omega), ok_bind, ok_bind]
      rw [show (x :: xs).length = xs.length + 1 from rfl, euc, if_neg h]
      exact euc_for xs b (a % b)
theorem lowest_ok {p q : Int} (h : q ≠ 0) (hb : q.natAbs < 18446744073709551616) : m_law_lowest p q = .ok (low p q) := by
  unfold m_law_lowest
  have g0 := gI_pos (p := p) h
  have g1 := gI_le (p := p) h
  have hs : (if decide (q < 0) = true then Rs.ok (-p, -q) else Rs.ok (p, q)) = Rs.ok (if q < 0 then (-p, -q) else (p, q)) := by
    by_cases hq : q < 0
    · rw [if_pos (decide_eq_true hq), if_pos hq]
    · rw [if_neg (by simpa using hq), if_neg hq]
  rw [hs, ok_bind]
  have e : ∀ P Q : Int, 0 < Q → Q.natAbs = q.natAbs → P.natAbs = p.natAbs → (bindJ (forJ (fun (turn : Int) (s1 : Int × Int) =>
  (if (decide (s1.2 = 0)) = true then
  (Rs.ok (LO.bk (s1.1, s1.2)))
  else (((modC s1.1 s1.2)).bind fun two =>
  (Rs.ok (LO.nx (s1.2, two)))))) (rngL 0 4000) ((iabs P), Q)) fun (s1 : Int × Int) =>
  (((divC P s1.1)).bind fun u => ((divC Q s1.1)).bind fun u1 => .ok (u, u1))) = .ok (P / gI p q, Q / gI p q) := by
    intro P Q hQ h2 h3
    rw [iabs_nat, show Q = (Q.natAbs : Int) by omega, h2, h3, euc_for]
    have hl : (rngL 0 4000).length = 4000 := by unfold rngL; rw [List.length_map, List.length_range]; rfl
    rw [hl, euc_done 64 4000 p.natAbs q.natAbs hb (by decide), bindJ_nx]
    show Rs.bind (divC P (gI p q)) _ = _
    rw [div_ok g0 (by omega), ok_bind]
    show Rs.bind (divC _ (gI p q)) _ = _
    rw [div_ok g0 (by omega), ok_bind]
  unfold low
  by_cases hq : q < 0
  · rw [if_pos hq, if_pos hq]
    exact e (-p) (-q) (by omega) (by omega) (by omega)
  · rw [if_neg hq, if_neg hq]
    exact e p q (by omega) rfl rfl
/-! sixths -/
def F (z : Int) : Int × Int := low z 6
theorem six0 : (6 : Int) ≠ 0 := by decide
theorem F_is (z : Int) : IsF (F z) := low_is six0
theorem F_v (z : Int) : (F z).1 * 6 = z * (F z).2 := low_val six0
theorem F_pos (z : Int) : 0 < (F z).2 := (F_is z).pos
theorem F_le (z : Int) : (F z).2.natAbs ≤ 6 := low_bd2 six0
theorem F_num (z : Int) : (F z).1.natAbs ≤ z.natAbs := low_bd1 six0
theorem F_dvd (z : Int) : (F z).2 ∣ 6 := by
  unfold F low
  rw [if_neg (by decide)]
  exact Int.ediv_dvd_of_dvd (gI_dr z 6)
theorem F_low {p q z : Int} (h : q ≠ 0) (e : p * 6 = z * q) : low p q = F z := low_ext h six0 e
theorem F_neg (z : Int) : F (-z) = (-(F z).1, (F z).2) := by
  have i : IsF (-(F z).1, (F z).2) := ⟨F_pos z, by show Nat.gcd (-(F z).1).natAbs _ = 1; rw [Int.natAbs_neg]; exact (F_is z).cop⟩
  refine isF_ext (F_is _) i ?_
  show (F (-z)).1 * (F z).2 = -(F z).1 * (F (-z)).2
  have h1 := F_v z
  have h2 := F_v (-z)
  refine Int.eq_of_mul_eq_mul_right six0 ?_
  grind
theorem F_one (p : Int) : F (p * 6) = (p, 1) := by
  have i : IsF (p, (1 : Int)) := ⟨by show (0 : Int) < 1; decide, by simp⟩
  refine isF_ext (F_is _) i ?_
  show (F (p * 6)).1 * 1 = p * (F (p * 6)).2
  have h2 := F_v (p * 6)
  refine Int.eq_of_mul_eq_mul_right six0 ?_
  grind
theorem F_sgn (z : Int) : ((F z).1 < 0 ↔ z < 0) ∧ ((F z).1 > 0 ↔ z > 0) := by
  have h := F_v z
  have hp := F_pos z
  generalize (F z).1 = a at *
  generalize (F z).2 = b at *
  refine ⟨⟨fun k => ?_, fun k => ?_⟩, ⟨fun k => ?_, fun k => ?_⟩⟩
  · apply Int.not_le.mp
    intro hz
    have := Int.mul_nonneg hz (Int.le_of_lt hp)
    omega
  · have := Int.mul_neg_of_neg_of_pos k hp
    omega
  · apply Int.not_le.mp
    intro hz
    have := Int.mul_nonpos_of_nonpos_of_nonneg hz (Int.le_of_lt hp)
    omega
  · have := Int.mul_pos k hp
    omega
theorem F_abs (z : Int) : F (iabs z) = (iabs (F z).1, (F z).2) := by
  have h := (F_sgn z).1
  by_cases hz : z < 0
  · have e1 : iabs z = -z := if_pos hz
    have e2 : iabs (F z).1 = -(F z).1 := if_pos (h.mpr hz)
    rw [e1, e2, F_neg]
  · have e1 : iabs z = z := if_neg hz
    have e2 : iabs (F z).1 = (F z).1 := if_neg (fun k => hz (h.mp k))
    rw [e1, e2]
theorem prod6 {a b : Int} (ha : 0 < a) (hb : 0 < b) (h1 : a.natAbs ≤ 6) (h2 : b.natAbs ≤ 6) : a * b ≠ 0 ∧ (a * b).natAbs < 18446744073709551616 := by
  have := Int.mul_pos ha hb
  have : (a * b).natAbs ≤ 6 * 6 := by rw [Int.natAbs_mul]; exact Nat.mul_le_mul h1 h2
  omega
theorem minus_ok (x y : Int) : m_minus T (F x) (F y) = .ok (F (x - y)) := by
  have p := prod6 (F_pos x) (F_pos y) (F_le x) (F_le y)
  have hx := F_le x
  have hy := F_le y
  unfold m_minus
  rw [mul_r (by omega), ok_bind, mul_r (by omega), ok_bind, ok_bind, mul_r (by omega), ok_bind, fraction_ok T p.1 p.2, F_low p.1]
  have h1 := F_v x
  have h2 := F_v y
  grind
theorem plus_ok (x y : Int) : m_law_plus (F x) (F y) = .ok (F (x + y)) := by
  have p := prod6 (F_pos x) (F_pos y) (F_le x) (F_le y)
  have hx := F_le x
  have hy := F_le y
  unfold m_law_plus
  rw [mul_r (by omega), ok_bind, mul_r (by omega), ok_bind, ok_bind, mul_r (by omega), ok_bind, lowest_ok p.1 p.2, F_low p.1]
  have h1 := F_v x
  have h2 := F_v y
  grind
theorem F_zero : F 0 = (0, 1) := by have := F_one 0; rwa [Int.zero_mul] at this
theorem ladded_ok (zs : List Int) : m_law_added (zs.map F) = .ok (F zs.sum) := by
  unfold m_law_added
  rw [ok_bind]
  have : ∀ (zs : List Int) (a : Int), forR (fun (one : (Int × Int)) (total1 : (Int × Int)) => ((m_law_plus total1 one).bind fun total2 => (Rs.ok total2))) (zs.map F) (F a) = .ok (F (a + zs.sum)) := by
    intro zs
    induction zs with
    | nil => intro a; rw [List.map_nil, List.sum_nil, Int.add_zero]; rfl
    | cons z zs ih => intro a; rw [List.map_cons, forR, plus_ok, ok_bind, ok_bind, ih, List.sum_cons, Int.add_assoc]
  have h := this zs 0
  rw [F_zero, Int.zero_add] at h
  rw [h, ok_bind]
/-- the scale of a list -/
theorem scaled_ok (zs : List Int) (hl : zs.length ≤ 100000) : ∃ (ns : List Int) (s : Int), m_scaled (zs.map F) = .ok (ns, s) ∧ 0 < s ∧ s.natAbs ≤ 6 ∧ ns.map (fun n => n * 6) = zs.map (fun z => z * s) := by
  unfold m_scaled
  obtain ⟨s, hs, i0, i1, i2⟩ := for_inv (f := fun (pair : (Int × Int)) (scale : Int) => (((lcmC scale pair.2)).bind fun scale1 => (Rs.ok scale1))) (xs := zs.map F) (s := (1 : Int)) (fun pre s => 0 < s ∧ s ∣ 6 ∧ ∀ x ∈ pre, x.2 ∣ s) ⟨by decide, by decide, fun x h => nomatch h⟩ (by
    intro pre a suf s e ⟨j0, j1, j2⟩
    have ha : a ∈ zs.map F := by rw [e]; simp
    obtain ⟨z, hz, rfl⟩ := List.mem_map.mp ha
    have hs : s.natAbs ≤ 6 := Nat.le_of_dvd (by decide) (Int.natAbs_dvd_natAbs.mpr j1)
    have hz := F_le z
    have hp := F_pos z
    refine ⟨_, by rw [lcm_ok (by omega) (by omega), ok_bind], ?_, ?_, ?_⟩
    · have := Int.lcm_pos (m := s) (n := (F z).2) (by omega) (by omega)
      omega
    · exact Int.coe_lcm_dvd j1 (F_dvd z)
    · intro x hx
      rcases List.mem_append.mp hx with h | h
      · exact Int.dvd_trans (j2 x h) (Int.dvd_lcm_left ..)
      · rw [List.mem_singleton.mp h]; exact Int.dvd_lcm_right ..)
  have s6 : s.natAbs ≤ 6 := Nat.le_of_dvd (by decide) (Int.natAbs_dvd_natAbs.mpr i1)
  have key : ∀ z ∈ zs, ∃ q, s / (F z).2 = q ∧ s = (F z).2 * q := by
    intro z hz
    obtain ⟨q, hq⟩ : (F z).2 ∣ s := i2 _ (List.mem_map.mpr ⟨_, hz, rfl⟩)
    have hp := F_pos z
    exact ⟨q, by rw [hq, Int.mul_ediv_cancel_left _ (by omega)], hq⟩
  rw [hs, ok_bind, lc_ok (fun p => p.1 * (s / p.2)) (by simpa using hl), ok_bind]
  · refine ⟨_, _, rfl, i0, s6, ?_⟩
    rw [List.map_map, List.map_map]
    refine List.map_congr_left fun z hz => ?_
    obtain ⟨q, e1, hq⟩ := key z hz
    show (F z).1 * (s / (F z).2) * 6 = z * s
    have hv := F_v z
    rw [e1]
    generalize F z = f at *
    grind
  · intro a ha
    obtain ⟨z, hz, rfl⟩ := List.mem_map.mp ha
    obtain ⟨q, e1, hq⟩ := key z hz
    have hp := F_pos z
    have hl := F_le z
    rw [div_ok hp (by omega), ok_bind]
    have hm : q.natAbs * 1 ≤ s.natAbs := by
      rw [hq, Int.natAbs_mul, Nat.mul_comm]
      exact Nat.mul_le_mul_right _ (by omega)
    rw [e1]
    exact mul_r (by omega)
end Q

set_option Elab.async false
set_option linter.all false
set_option maxRecDepth 100000
set_option maxHeartbeats 4000000
namespace Q
open PySem PySem.Spec PyProof.Rows L2 Z R QF
variable {K : PySem.W.Frag} {mg : Str → Option Value} (T : Tx K mg)
abbrev Rw := List Int × Str × Int
abbrev sL : Str := PySem.Str.ofString "least"
abbrev sM : Str := PySem.Str.ofString "most"
abbrev sE : Str := PySem.Str.ofString "equal"
structure Rws (m : Nat) (rs : List Rw) : Prop where
  m1 : 1 ≤ m
  m6 : m ≤ 6
  rl : rs.length ≤ 5
  wl : ∀ r ∈ rs, r.1.length = m
  cb : ∀ r ∈ rs, ∀ x ∈ r.1, x.natAbs < 1000000
  bb : ∀ r ∈ rs, r.2.2.natAbs < 1000000
  rel : ∀ r ∈ rs, r.2.1 ∈ [sL, sM, sE]
structure Prs (m : Nat) (P : List Int) : Prop where
  len : P.length = m
  bd : ∀ x ∈ P, x.natAbs < 1000000
def dotF (as bs : List Int) : Int := ((as.zip bs).map fun p => p.1 * p.2).sum
def col (rs : List Rw) (j : Nat) : List Int := rs.map fun r => r.1.getD j 0
def bnds (rs : List Rw) : List Int := rs.map fun r => r.2.2
theorem for_rng {α σ : Type} {f : α → σ → Rs σ} {n : Nat} {g : Nat → α} (I : Nat → σ → Prop) {s : σ} (h0 : I 0 s) (h : ∀ k s, k < n → I k s → ∃ s', f (g k) s = .ok s' ∧ I (k + 1) s') : ∃ s', forR f ((List.range n).map g) s = .ok s' ∧ I n s' := by
  obtain ⟨s', h1, h2⟩ := for_inv (f := f) (xs := (List.range n).map g) (fun pre s => I pre.length s) h0 (by
    intro pre a suf s e i
    have hl : pre.length < n := by have := congrArg List.length e; rw [List.length_map, List.length_range, List.length_append, List.length_cons] at this; omega
    have ha : a = g pre.length := by
      have h2 : ((List.range n).map g)[pre.length]? = some a := by rw [e]; simp
      rw [List.getElem?_map, List.getElem?_range hl] at h2
      exact (Option.some.inj h2).symm
    obtain ⟨s', h1, h2⟩ := h _ s hl i
    exact ⟨s', by rw [ha]; exact h1, by rw [List.length_append]; exact h2⟩)
  rw [List.length_map, List.length_range] at h2
  exact ⟨s', h1, h2⟩
theorem rows_ok (P : List Int) {rs : List Rw} (h : rs.length ≤ 100000) : m_Program_rows (P, rs) = .ok rs := by
  unfold m_Program_rows
  rw [lc_ok (fun x : Rw => x) h fun _ _ => rfl, List.map_id']
theorem dot_ok {as bs : List Int} (h : as.length ≤ 100000) (hb : ∀ a ∈ as, a.natAbs < 1000000) : m_dot as bs = .ok (dotF as bs) := by
  unfold m_dot
  rw [lc_ok (fun x => x.1 * x.2) (by rw [List.length_zip]; omega), ok_bind]
  · rfl
  · intro a ha
    have := hb _ (List.of_mem_zip (show (a.1, a.2) ∈ _ from ha)).1
    exact mul_l (by omega)
theorem dot_scale {s : Int} : ∀ (as ns ws : List Int), ns.map (fun n => n * 6) = ws.map (fun z => z * s) → dotF as ns * 6 = dotF as ws * s
  | [], _, _, _ => by simp [dotF]
  | a :: as, [], [], _ => by simp [dotF]
  | a :: as, [], w :: ws, h => by simp at h
  | a :: as, n :: ns, [], h => by simp at h
  | a :: as, n :: ns, w :: ws, h => by
    rw [List.map_cons, List.map_cons] at h
    have h1 := (List.cons.inj h).1
    have ih := dot_scale as ns ws (List.cons.inj h).2
    show (a * n + dotF as ns) * 6 = (a * w + dotF as ws) * s
    grind
theorem lenI_map {α β : Type} (f : α → β) (xs : List α) : lenI (xs.map f) = lenI xs := by unfold lenI; rw [List.length_map]
theorem scfor_ok {rs : List Rw} {ws : List Int} (h : ws.length = rs.length) : m_scaled_for T rs (ws.map F) = m_scaled (ws.map F) := by
  unfold m_scaled_for
  have : decide (lenI (ws.map F) = lenI rs) = true := decide_eq_true (by unfold lenI; rw [List.length_map, h])
  rw [this]
  rfl
theorem scfor_ex {rs : List Rw} {ws : List Int} (h : ws.length ≠ rs.length) : m_scaled_for T rs (ws.map F) = .ex T.c_WrongSize 0 := by
  unfold m_scaled_for
  have : decide (lenI (ws.map F) = lenI rs) = false := decide_eq_false (by unfold lenI; rw [List.length_map]; omega)
  rw [this]
  rfl
theorem Rws.colb {m : Nat} {rs : List Rw} (R : Rws m rs) {j : Nat} (hj : j < m) : ∀ a ∈ col rs j, a.natAbs < 1000000 := fun a ha => by
  obtain ⟨r, hr, rfl⟩ := List.mem_map.mp ha
  exact R.cb r hr _ (gD_mem (by rw [R.wl r hr]; exact hj))
theorem Rws.bbs {m : Nat} {rs : List Rw} (R : Rws m rs) : ∀ a ∈ bnds rs, a.natAbs < 1000000 := fun a ha => by
  obtain ⟨r, hr, rfl⟩ := List.mem_map.mp ha
  exact R.bb r hr
theorem gain_ok {m : Nat} {P : List Int} {rs : List Rw} {ws : List Int} (R : Rws m rs) (h : ws.length = rs.length) : m_gain T (P, rs) (ws.map F) = .ok (F (dotF (bnds rs) ws)) := by
  have hl := R.rl
  obtain ⟨ns, s, e, s0, s6, hn⟩ := scaled_ok ws (by omega)
  unfold m_gain
  rw [rows_ok P (by omega), ok_bind, scfor_ok T h, e, ok_bind, lc_ok (fun r : Rw => r.2.2) (by omega) fun _ _ => rfl, ok_bind]
  show Rs.bind (m_dot (bnds rs) ns) _ = _
  rw [dot_ok (by unfold bnds; rw [List.length_map]; omega) R.bbs, ok_bind, fraction_ok T (by show s ≠ 0; omega) (by show s.natAbs < _; omega)]
  exact congrArg Rs.ok (F_low (by show s ≠ 0; omega) (dot_scale _ _ _ hn))
theorem loads_ok {m : Nat} {P : List Int} {rs : List Rw} {ws : List Int} (R : Rws m rs) (hP : P.length = m) (h : ws.length = rs.length) : m_loads T (P, rs) (ws.map F) = .ok ((List.range m).map fun j => F (dotF (col rs j) ws)) := by
  have hl := R.rl
  have hm := R.m6
  obtain ⟨ns, s, e, s0, s6, hn⟩ := scaled_ok ws (by omega)
  unfold m_loads m_Program_count
  rw [rows_ok P (by omega), ok_bind, scfor_ok T h, e, ok_bind, ok_bind]
  show Rs.bind (rng1C (lenI P)) _ = _
  rw [show lenI P = (m : Int) by unfold lenI; rw [hP], rng_up (by omega), ok_bind]
  refine lc_up (fun j => F (dotF (col rs j) ws)) (by omega) fun j hj => ?_
  rw [lc_ok (fun r : Rw => r.1.getD j 0) (by omega) fun r hr => ix_k (0 : Int) (by rw [R.wl r hr]; exact hj), ok_bind]
  show Rs.bind (m_dot (col rs j) ns) _ = _
  rw [dot_ok (by unfold col; rw [List.length_map]; omega) (R.colb hj), ok_bind, fraction_ok T (by show s ≠ 0; omega) (by show s.natAbs < _; omega)]
  exact congrArg Rs.ok (F_low (by show s ≠ 0; omega) (dot_scale _ _ _ hn))
/-! the bound under a fixing -/
def restF (P : List Int) (rs : List Rw) (ws : List Int) (j : Nat) : Int := P.getD j 0 * 6 - dotF (col rs j) ws
def pickB (fx : List (Option Int)) (P : List Int) (rs : List Rw) (ws : List Int) (j : Nat) : Bool := decide (fx.getD j none = some 1) || ((fx.getD j none).isNone && decide (restF P rs ws j < 0))
def addF (fx : List (Option Int)) (P : List Int) (rs : List Rw) (ws : List Int) (j : Nat) : Int := if pickB fx P rs ws j = true then restF P rs ws j else 0
def bndF (m : Nat) (fx : List (Option Int)) (P : List Int) (rs : List Rw) (ws : List Int) : Int := dotF (bnds rs) ws + ((List.range m).map (addF fx P rs ws)).sum
theorem zip3_rng {α β γ : Type} {xs : List α} {g : Nat → β} {zs : List γ} {m : Nat} (d : α) (e : γ) (h1 : xs.length = m) (h3 : zs.length = m) : zip3 xs ((List.range m).map g) zs = (List.range m).map fun j => (xs.getD j d, g j, zs.getD j e) := by
  unfold zip3
  refine List.ext_getElem (by simp [h1, h3]) fun i a b => ?_
  have i0 : i < m := by simpa using b
  have i1 : i < xs.length := by omega
  have i3 : i < zs.length := by omega
  simp [List.getElem?_eq_getElem i1, List.getElem?_eq_getElem i3]
theorem sum_rng {f : Nat → Int} (k : Nat) : ((List.range (k + 1)).map f).sum = ((List.range k).map f).sum + f k := by
  rw [List.range_succ, List.map_append, List.sum_append]; simp
theorem boundw_ok {m : Nat} {P P' : List Int} {rs : List Rw} {ws : List Int} {fx : List (Option Int)} (R : Rws m rs) (hP : P.length = m) (hP' : P'.length = m) (hf : fx.length = m) (h : ws.length = rs.length) : m_bound_with T (P, rs) P' fx (ws.map F) = .ok (F (bndF m fx P' rs ws)) := by
  have hm := R.m6
  unfold m_bound_with
  rw [gain_ok T R h, ok_bind, ok_bind, loads_ok T R hP h, qu_ok, qu_ok, qu_ok, ok_bind, ok_bind, ok_bind, ok_bind, zip3_rng (0 : Int) (none : Option Int) hP' hf]
  obtain ⟨parts, hp, zs, e, hl, hs⟩ := for_rng (n := m) (f := fun (x : (Int × (Int × Int) × (Option Int))) (parts1 : (List (Int × Int))) =>
  ((m_minus T (x.1, 1) x.2.1).bind fun rest =>
  (if ((decide (x.2.2 = (some 1))) || (x.2.2.isNone && (decide (rest.1 < 0)))) = true then
  ((pushC parts1 rest).bind fun parts2 =>
  (Rs.ok parts2))
  else (Rs.ok parts1)))) (g := fun j => (P'.getD j 0, F (dotF (col rs j) ws), fx.getD j none)) (fun k parts => ∃ zs : List Int, parts = zs.map F ∧ zs.length ≤ k + 1 ∧ zs.sum = dotF (bnds rs) ws + ((List.range k).map (addF fx P' rs ws)).sum) (s := [F (dotF (bnds rs) ws)]) ⟨[dotF (bnds rs) ws], rfl, by simp, by simp⟩ (by
    intro k parts hk ⟨zs, e, hl, hs⟩
    subst e
    show ∃ s', (m_minus T (P'.getD k 0, 1) (F (dotF (col rs k) ws))).bind _ = _ ∧ _
    rw [← F_one, minus_ok T, ok_bind]
    show ∃ s', (if (decide (fx.getD k none = some 1) || ((fx.getD k none).isNone && decide ((F (restF P' rs ws k)).1 < 0))) = true then _ else _) = _ ∧ _
    have e2 : decide ((F (restF P' rs ws k)).1 < 0) = decide (restF P' rs ws k < 0) := by rw [decide_eq_decide]; exact (F_sgn _).1
    rw [e2]
    show ∃ s', (if pickB fx P' rs ws k = true then _ else _) = _ ∧ _
    by_cases hc : pickB fx P' rs ws k = true
    · rw [if_pos hc, push_ok (by rw [List.length_map]; omega), ok_bind]
      refine ⟨_, rfl, zs ++ [restF P' rs ws k], by rw [List.map_append]; rfl, by simp; omega, ?_⟩
      rw [sum_rng, List.sum_append, hs, addF, if_pos hc]
      simp only [List.sum_cons, List.sum_nil]
      omega
    · rw [if_neg hc]
      refine ⟨_, rfl, zs, rfl, by omega, ?_⟩
      rw [sum_rng, hs, addF, if_neg hc]
      omega)
  rw [hp, ok_bind, e]
  obtain ⟨ns, s, e2, s0, s6, hn⟩ := scaled_ok zs (by omega)
  unfold m_added
  rw [e2, ok_bind, fraction_ok T (by show s ≠ 0; omega) (by show s.natAbs < _; omega)]
  refine congrArg Rs.ok (F_low (by show s ≠ 0; omega) ?_)
  show ns.sum * 6 = bndF m fx P' rs ws * s
  have key : ∀ (ns zs : List Int), ns.map (fun n => n * 6) = zs.map (fun z => z * s) → ns.sum * 6 = zs.sum * s := by
    intro ns
    induction ns with
    | nil => intro zs h; cases zs with
      | nil => simp
      | cons z zs => simp at h
    | cons n ns ih => intro zs h; cases zs with
      | nil => simp at h
      | cons z zs =>
        rw [List.map_cons, List.map_cons] at h
        have h1 := (List.cons.inj h).1
        have h2 := ih zs (List.cons.inj h).2
        rw [List.sum_cons, List.sum_cons]
        grind
  rw [key ns zs hn, hs]
  rfl
/-! the law's own way -/
theorem weighted_ok {as ws : List Int} (h : as.length = ws.length) (hl : as.length ≤ 100000) (hb : ∀ a ∈ as, a.natAbs < 1000000) : m_law_weighted as (ws.map F) = .ok (F (dotF as ws)) := by
  unfold m_law_weighted
  rw [show lenI as = (as.length : Int) from rfl, rng_up (by omega), ok_bind, lc_up (fun k => F (as.getD k 0 * ws.getD k 0)) hl, ok_bind]
  · have e : ((List.range as.length).map fun k => F (as.getD k 0 * ws.getD k 0)) = (((as.zip ws).map fun p => p.1 * p.2)).map F := by
      refine List.ext_getElem (by simp [h]) fun i a b => ?_
      have i0 : i < as.length := by simpa using a
      have i1 : i < ws.length := by omega
      simp [List.getElem?_eq_getElem i0, List.getElem?_eq_getElem i1]
    rw [e, ladded_ok]
    rfl
  · intro k hk
    have hw : (ws.map F).getD k (0, 1) = F (ws.getD k 0) := by
      have i1 : k < ws.length := by omega
      simp [List.getElem?_eq_getElem i1]
    rw [ix_k (0 : Int) hk, ok_bind, ix_k ((0 : Int), (1 : Int)) (by rw [List.length_map]; omega), ok_bind, ok_bind, ok_bind, hw]
    have hp := F_pos (ws.getD k 0)
    have h6 := F_le (ws.getD k 0)
    have hc := hb _ (gD_mem (d := 0) hk)
    rw [mul_l (by omega), ok_bind, ok_bind, lowest_ok (by omega) (by omega)]
    refine congrArg Rs.ok (F_low (by omega) ?_)
    have hv := F_v (ws.getD k 0)
    grind
theorem lbound_ok {m : Nat} {P : List Int} {rs : List Rw} {ws : List Int} {fx : List (Option Int)} (R : Rws m rs) (hP : P.length = m) (hf : fx.length = m) (h : ws.length = rs.length) : m_law_bound P rs fx (ws.map F) = .ok (F (bndF m fx P rs ws)) := by
  have hm := R.m6
  have hl := R.rl
  unfold m_law_bound
  rw [lc_ok (fun r : Rw => r.2.2) (by omega) fun _ _ => rfl, ok_bind]
  show Rs.bind (m_law_weighted (bnds rs) (ws.map F)) _ = _
  rw [weighted_ok (by unfold bnds; rw [List.length_map, h]) (by unfold bnds; rw [List.length_map]; omega) R.bbs, ok_bind, show lenI P = (m : Int) by unfold lenI; rw [hP], rng_up (by omega), ok_bind]
  unfold upto
  obtain ⟨t, ht, e⟩ := for_rng (n := m) (f := fun (j : Int) (total1 : (Int × Int)) =>
  (((lcM (β := Int) rs (fun (row1 : ((List Int) × Str × Int)) => (Rs.ok true)) (fun (row1 : ((List Int) × Str × Int)) => ((ixC row1.1 j)))).bind fun u1 => m_law_weighted u1 (ws.map F)).bind fun load =>
  (((((ixC P j)).bind fun u2 => .ok (u2, 1)).bind fun u3 => m_law_plus u3 ((-load.1), load.2)).bind fun rest =>
  (((((ixC fx j)).bind fun u5 => Rs.ok (decide (u5 = (some 1)))).bind fun c1 => if c1 = true then Rs.ok true else ((((ixC fx j)).bind fun u4 => Rs.ok u4.isNone).bind fun c => if c = true then (Rs.ok (decide (rest.1 < 0))) else Rs.ok false)).bind fun c2 => if c2 = true then
  ((m_law_plus total1 rest).bind fun total2 =>
  (Rs.ok total2))
  else (Rs.ok total1))))) (g := fun (k : Nat) => (k : Int)) (fun k t => t = F (dotF (bnds rs) ws + ((List.range k).map (addF fx P rs ws)).sum)) (s := F (dotF (bnds rs) ws)) (by simp) (by
    intro k t hk e
    subst e
    rw [lc_ok (fun r : Rw => r.1.getD k 0) (by omega) fun r hr => ix_k (0 : Int) (by rw [R.wl r hr]; exact hk), ok_bind]
    show ∃ s', Rs.bind (m_law_weighted (col rs k) (ws.map F)) _ = _ ∧ _
    rw [weighted_ok (by unfold col; rw [List.length_map, h]) (by unfold col; rw [List.length_map]; omega) (R.colb hk), ok_bind, ix_k (0 : Int) (by omega), ok_bind, ok_bind, ← F_neg, ← F_one, plus_ok, ok_bind, ix_k (none : Option Int) (by omega), ok_bind, ok_bind, ok_bind]
    show ∃ s', Rs.bind (if decide (fx.getD k none = some 1) = true then _ else if (fx.getD k none).isNone = true then Rs.ok (decide ((F (restF P rs ws k)).1 < 0)) else _) _ = _ ∧ _
    have e2 : decide ((F (restF P rs ws k)).1 < 0) = decide (restF P rs ws k < 0) := by rw [decide_eq_decide]; exact (F_sgn _).1
    have e3 : (if decide (fx.getD k none = some 1) = true then Rs.ok true else if (fx.getD k none).isNone = true then Rs.ok (decide ((F (restF P rs ws k)).1 < 0)) else Rs.ok false) = Rs.ok (pickB fx P rs ws k) := by
      rw [e2]
      unfold pickB
      cases decide (fx.getD k none = some 1) <;> cases (fx.getD k none).isNone <;> rfl
    rw [e3, ok_bind]
    by_cases hc : pickB fx P rs ws k = true
    · rw [if_pos hc]
      show ∃ s', Rs.bind (m_law_plus _ (F (restF P rs ws k))) _ = _ ∧ _
      rw [plus_ok, ok_bind]
      exact ⟨_, rfl, by rw [sum_rng, addF, if_pos hc, Int.add_assoc]⟩
    · rw [if_neg hc]
      exact ⟨_, rfl, by rw [sum_rng, addF, if_neg hc, Int.add_zero]⟩)
  rw [ht, ok_bind, e]
  rfl
end Q

set_option Elab.async false
set_option linter.all false
set_option maxRecDepth 100000
set_option maxHeartbeats 4000000
namespace Q
open PySem PySem.Spec PyProof.Rows L2 Z R QF
variable {K : PySem.W.Frag} {mg : Str → Option Value} (T : Tx K mg)
/-! what is fit -/
theorem s_LM : sL ≠ sM := by decide +kernel
theorem s_LE : sL ≠ sE := by decide +kernel
theorem s_ME : sM ≠ sE := by decide +kernel
def fit1 (r : Str) (w : Int) : Bool := if r = sL then decide (0 ≤ w) else decide (r = sE) || decide (w ≤ 0)
def fitB (rs : List Rw) (ws : List Int) : Bool := decide (ws.length = rs.length) && (rs.zip ws).all fun p => fit1 p.1.2.1 p.2
theorem F_ge (z : Int) : decide ((F z).1 ≥ 0) = decide (0 ≤ z) := by rw [decide_eq_decide]; have := (F_sgn z).1; omega
theorem F_nle (z : Int) : decide ((F z).1 ≤ 0) = decide (z ≤ 0) := by rw [decide_eq_decide]; have := (F_sgn z).2; omega
theorem F_lt (z : Int) : decide ((F z).1 < 0) = decide (z < 0) := by rw [decide_eq_decide]; exact (F_sgn z).1
theorem F_gt (z : Int) : decide ((F z).1 > 0) = decide (z > 0) := by rw [decide_eq_decide]; exact (F_sgn z).2
theorem isfit_ok (r : Str) (w : Int) : m_is_fit r (F w) = .ok (fit1 r w) := by
  unfold m_is_fit fit1
  rw [F_ge, F_nle]
  by_cases h : r = sL
  · rw [if_pos (decide_eq_true h), if_pos h]
  · rw [if_neg (by simpa using h), if_neg h]
theorem arefit_ok {m : Nat} {P : List Int} {rs : List Rw} {ws : List Int} (R : Rws m rs) : m_are_fit (P, rs) (ws.map F) = .ok (fitB rs ws) := by
  have hl := R.rl
  unfold m_are_fit
  rw [rows_ok P (by omega), ok_bind]
  by_cases h : ws.length = rs.length
  · have : decide (lenI (ws.map F) = lenI rs) = true := decide_eq_true (by unfold lenI; rw [List.length_map, h])
    rw [this]
    show (Rs.bind _ _) = _
    have e : rs.zip (ws.map F) = (rs.zip ws).map fun p => (p.1, F p.2) := by
      rw [List.zip_map_right]
      rfl
    rw [e, lc_ok (fun p => decide (p.1.2.1 = sL ∧ p.2.1 ≥ 0 ∨ p.1.2.1 ≠ sL ∧ (p.1.2.1 = sE ∨ p.2.1 ≤ 0))) (by rw [List.length_map, List.length_zip]; omega), ok_bind]
    · rw [List.map_map, List.all_map]
      unfold fitB
      rw [decide_eq_true h, Bool.true_and]
      congr 2
      funext p
      show decide _ = fit1 p.1.2.1 p.2
      unfold fit1
      have h1 := (F_sgn p.2).1
      have h2 := (F_sgn p.2).2
      by_cases hq : p.1.2.1 = sL
      · rw [if_pos hq, decide_eq_decide]
        show (p.1.2.1 = sL ∧ (F p.2).1 ≥ 0 ∨ _) ↔ _
        constructor
        · rintro (⟨_, h⟩ | ⟨h, _⟩)
          · omega
          · exact absurd hq h
        · intro h; exact .inl ⟨hq, by omega⟩
      · rw [if_neg hq, ← Bool.decide_or, decide_eq_decide]
        show (p.1.2.1 = sL ∧ _ ∨ p.1.2.1 ≠ sL ∧ (p.1.2.1 = sE ∨ (F p.2).1 ≤ 0)) ↔ _
        constructor
        · rintro (⟨h, _⟩ | ⟨_, h⟩)
          · exact absurd h hq
          · rcases h with h | h
            · exact .inl h
            · exact .inr (by omega)
        · rintro (h | h)
          · exact .inr ⟨hq, .inl h⟩
          · exact .inr ⟨hq, .inr (by omega)⟩
    · intro a ha
      unfold m_is_fit
      by_cases hq : a.1.2.1 = sL
      · rw [if_pos (decide_eq_true hq)]
        congr 1
        rw [decide_eq_decide]
        simp [hq]
      · rw [if_neg (by simpa using hq), ← Bool.decide_or]
        congr 1
        rw [decide_eq_decide]
        simp [hq]
  · have : decide (lenI (ws.map F) = lenI rs) = false := decide_eq_false (by unfold lenI; rw [List.length_map]; omega)
    rw [this]
    unfold fitB
    rw [decide_eq_false h]
    rfl
theorem zip_rng {α β : Type} {xs : List α} {ys : List β} {n : Nat} (d : α) (e : β) (h1 : xs.length = n) (h2 : ys.length = n) : xs.zip ys = (List.range n).map fun k => (xs.getD k d, ys.getD k e) := by
  refine List.ext_getElem (by simp [h1, h2]) fun i a b => ?_
  have i0 : i < n := by simpa using b
  have i1 : i < xs.length := by omega
  have i3 : i < ys.length := by omega
  simp [List.getElem?_eq_getElem i1, List.getElem?_eq_getElem i3]
theorem lfit_ok {m : Nat} {rs : List Rw} {ws : List Int} (R : Rws m rs) : m_law_fit rs (ws.map F) = .ok (fitB rs ws) := by
  have hl := R.rl
  unfold m_law_fit
  by_cases h : ws.length = rs.length
  · have : decide (lenI (ws.map F) = lenI rs) = true := decide_eq_true (by unfold lenI; rw [List.length_map, h])
    rw [this]
    show Rs.bind (rng1C (rs.length : Int)) _ = _
    rw [rng_up (by omega), ok_bind]
    have e : fitB rs ws = (upto rs.length).all fun k => fit1 (rs.getD k.toNat ([], sL, 0)).2.1 (ws.getD k.toNat 0) := by
      unfold fitB
      rw [decide_eq_true h, Bool.true_and, zip_rng ([], sL, 0) 0 rfl h, List.all_map]
      unfold upto
      rw [List.all_map]
      rfl
    rw [e]
    refine bJ_all (forJ_all _ fun a ha => ?_)
    have ha := mem_upto.mp ha
    have e0 : (ws.map F).getD a.toNat (0, 1) = F (ws.getD a.toNat 0) := by
      have i1 : a.toNat < ws.length := by omega
      simp [List.getElem?_eq_getElem i1]
    rw [ix_d ([], sL, 0) ha.1 (by omega), ok_bind, ok_bind, ok_bind, ix_d ((0 : Int), (1 : Int)) ha.1 (by rw [List.length_map]; omega), ok_bind, ok_bind, ok_bind, ok_bind, ok_bind, e0, F_lt, F_gt]
    have hr := R.rel _ (gD_mem (d := ([], sL, 0)) (show a.toNat < rs.length by omega))
    generalize (rs.getD a.toNat ([], sL, 0)).2.1 = r at *
    generalize ws.getD a.toNat 0 = w at *
    unfold fit1
    rcases List.mem_cons.mp hr with hr | hr
    · subst hr
      rw [decide_eq_true rfl, if_pos rfl, decide_eq_false s_LM, if_pos rfl]
      by_cases hw : w < 0
      · rw [decide_eq_true hw, decide_eq_false (show ¬ 0 ≤ w by omega)]; rfl
      · rw [decide_eq_false hw, decide_eq_true (show 0 ≤ w by omega)]; rfl
    · rcases List.mem_cons.mp hr with hr | hr
      · subst hr
        rw [decide_eq_false (Ne.symm s_LM), if_neg (Ne.symm s_LM), decide_eq_false s_ME, decide_eq_true rfl]
        by_cases hw : w > 0
        · rw [decide_eq_true hw, decide_eq_false (show ¬ w ≤ 0 by omega)]; rfl
        · rw [decide_eq_false hw, decide_eq_true (show w ≤ 0 by omega)]; rfl
      · have := List.mem_singleton.mp hr
        subst this
        rw [decide_eq_false (Ne.symm s_LE), if_neg (Ne.symm s_LE), decide_eq_true rfl, decide_eq_false (Ne.symm s_ME)]
        rfl
  · have : decide (lenI (ws.map F) = lenI rs) = false := decide_eq_false (by unfold lenI; rw [List.length_map]; omega)
    rw [this]
    unfold fitB
    rw [decide_eq_false h]
    rfl
/-! fixings -/
def okO (o : Option Int) : Bool := decide (o = none ∨ o = some 0 ∨ o = some 1)
structure Fix (m : Nat) (fx : List (Option Int)) : Prop where
  len : fx.length = m
  ok : ∀ o ∈ fx, o = none ∨ o = some 0 ∨ o = some 1
noncomputable def nfB (T : Tx K mg) (x : Int × Option Int) (_ : Unit) : Rs Unit :=
  ((if x.2.isSome = true then ((theO x.2).bind fun u1 => Rs.ok (!decide (u1 ∈ ([0, 1] : List Int)))) else Rs.ok false).bind fun c => if c = true then
  (Rs.ex T.c_BadFixing x.1)
  else (Rs.ok ()))
theorem nfB_ok {i : Int} {o : Option Int} (h : o = none ∨ o = some 0 ∨ o = some 1) : nfB T (i, o) () = .ok () := by
  rcases h with h | h | h <;> subst h <;> rfl
theorem nfB_bad {i b : Int} (h : b ∉ ([0, 1] : List Int)) : nfB T (i, some b) () = .ex T.c_BadFixing i := by
  show Rs.bind (Rs.ok (!decide (b ∈ ([0, 1] : List Int)))) _ = _
  rw [decide_eq_false h]
  rfl
theorem nf_ok : ∀ (xs : List (Option Int)) (k : Nat), (∀ o ∈ xs, o = none ∨ o = some 0 ∨ o = some 1) → forR (nfB T) ((xs.zipIdx k).map fun p => (((p.2 : Nat) : Int), p.1)) () = .ok ()
  | [], _, _ => rfl
  | x :: xs, k, h => by
    rw [List.zipIdx_cons, List.map_cons, forR, nfB_ok T (h x (List.mem_cons_self ..)), ok_bind]
    exact nf_ok xs _ fun o ho => h o (List.mem_cons_of_mem _ ho)
theorem nf_bad {b : Int} (hb : b ∉ ([0, 1] : List Int)) {suf : List (Option Int)} : ∀ (pre : List (Option Int)) (k : Nat), (∀ o ∈ pre, o = none ∨ o = some 0 ∨ o = some 1) → forR (nfB T) (((pre ++ some b :: suf).zipIdx k).map fun p => (((p.2 : Nat) : Int), p.1)) () = .ex T.c_BadFixing ((k + pre.length : Nat) : Int)
  | [], k, _ => by
    rw [List.nil_append, List.zipIdx_cons, List.map_cons, forR, nfB_bad T hb]
    rfl
  | x :: pre, k, h => by
    rw [List.cons_append, List.zipIdx_cons, List.map_cons, forR, nfB_ok T (h x (List.mem_cons_self ..)), ok_bind, nf_bad hb pre _ fun o ho => h o (List.mem_cons_of_mem _ ho), List.length_cons]
    congr 2
    omega
theorem few_ok {P : List Int} {rs : List Rw} (h : P.length ≤ 16) : m_need_few T (P, rs) = .ok () := by
  unfold m_need_few m_Program_count
  rw [ok_bind, ok_bind, if_neg]
  have : ¬ (lenI P > 16) := by unfold lenI; omega
  rw [decide_eq_false this]
  exact fun z => nomatch z
theorem few_bad {P : List Int} {rs : List Rw} (h : 16 < P.length) : m_need_few T (P, rs) = .ex T.c_TooMany (lenI P) := by
  unfold m_need_few m_Program_count
  have : lenI P > 16 := by unfold lenI; omega
  rw [ok_bind, ok_bind, if_pos (decide_eq_true this), ok_bind]
theorem fixing_ok {m : Nat} {P : List Int} {rs : List Rw} {fx : List (Option Int)} (hm : m ≤ 16) (hP : P.length = m) (f : Fix m fx) : m_need_fixing T (P, rs) fx = .ok () := by
  unfold m_need_fixing m_Program_count
  rw [few_ok T (by omega), ok_bind, ok_bind, ok_bind]
  have : decide (lenI fx = lenI P) = true := decide_eq_true (by unfold lenI; rw [f.len, hP])
  rw [this]
  show Rs.bind (forR (nfB T) (enumL fx) ()) _ = _
  unfold enumL
  rw [nf_ok T fx 0 f.ok]
  rfl
theorem fixing_many {P : List Int} {rs : List Rw} {fx : List (Option Int)} (h : 16 < P.length) : m_need_fixing T (P, rs) fx = .ex T.c_TooMany (lenI P) := by
  unfold m_need_fixing
  rw [few_bad T h]
  rfl
theorem fixing_size {P : List Int} {rs : List Rw} {fx : List (Option Int)} (hm : P.length ≤ 16) (h : fx.length ≠ P.length) : m_need_fixing T (P, rs) fx = .ex T.c_WrongSize 0 := by
  unfold m_need_fixing m_Program_count
  rw [few_ok T hm, ok_bind, ok_bind, ok_bind]
  have : decide (lenI fx = lenI P) = false := decide_eq_false (by unfold lenI; omega)
  rw [this]
  rfl
theorem fixing_bad {P : List Int} {rs : List Rw} {pre suf : List (Option Int)} {b : Int} (hm : P.length ≤ 16) (h : (pre ++ some b :: suf).length = P.length) (hp : ∀ o ∈ pre, o = none ∨ o = some 0 ∨ o = some 1) (hb : b ∉ ([0, 1] : List Int)) : m_need_fixing T (P, rs) (pre ++ some b :: suf) = .ex T.c_BadFixing (pre.length : Int) := by
  unfold m_need_fixing m_Program_count
  rw [few_ok T hm, ok_bind, ok_bind, ok_bind]
  have : decide (lenI (pre ++ some b :: suf) = lenI P) = true := decide_eq_true (by unfold lenI; rw [h])
  rw [this]
  show Rs.bind (forR (nfB T) (enumL (pre ++ some b :: suf)) ()) _ = _
  unfold enumL
  rw [nf_bad T hb pre 0 hp, Nat.zero_add]
  rfl
/-! the three questions -/
section
variable {m : Nat} {P : List Int} {rs : List Rw} {ws : List Int} {fx : List (Option Int)}
theorem case_ok (R : Rws m rs) (hP : P.length = m) (f : Fix m fx) (h : ws.length = rs.length) : m_case_bound T (P, rs) fx (ws.map F) = .ok (F (bndF m fx P rs ws)) := by
  have := R.m6
  unfold m_case_bound m_Program_prices
  rw [fixing_ok T (by omega) hP f, ok_bind, ok_bind]
  exact boundw_ok T R hP hP f.len h
def zerosF (m : Nat) : List Int := List.replicate m 0
def showsB (m : Nat) (fx : List (Option Int)) (rs : List Rw) (ws : List Int) : Bool := fitB rs ws && decide (bndF m fx (zerosF m) rs ws > 0)
theorem fitB_len (h : fitB rs ws = true) : ws.length = rs.length := by
  unfold fitB at h
  rw [Bool.and_eq_true] at h
  exact of_decide_eq_true h.1
theorem shows_ok (R : Rws m rs) (hP : P.length = m) (f : Fix m fx) : m_shows_none T (P, rs) fx (ws.map F) = .ok (showsB m fx rs ws) := by
  have := R.m6
  unfold m_shows_none m_Program_count showsB
  rw [fixing_ok T (by omega) hP f, ok_bind, arefit_ok R, ok_bind, ok_bind]
  cases hf : fitB rs ws with
  | false => rfl
  | true =>
    have h := fitB_len hf
    rw [if_neg (fun z => nomatch z), ok_bind, show lenI (P, rs).1 = (m : Int) by unfold lenI; show ((P.length : Nat) : Int) = _; rw [hP], rep_ok (by omega), ok_bind]
    show Rs.bind (Rs.bind (m_bound_with T (P, rs) (zerosF m) fx (ws.map F)) _) _ = _
    rw [boundw_ok T R hP (by unfold zerosF; rw [List.length_replicate]) f.len h, ok_bind, ok_bind, F_gt]
    rfl
theorem lshows_ok (R : Rws m rs) (hP : P.length = m) (f : Fix m fx) : m_law_shows_none P rs fx (ws.map F) = .ok (showsB m fx rs ws) := by
  have := R.m6
  unfold m_law_shows_none showsB
  rw [lfit_ok R, ok_bind]
  cases hf : fitB rs ws with
  | false => rfl
  | true =>
    have h := fitB_len hf
    rw [if_pos rfl, show lenI P = (m : Int) by unfold lenI; rw [hP], rep_ok (by omega), ok_bind]
    show Rs.bind (Rs.bind (m_law_bound (zerosF m) rs fx (ws.map F)) _) _ = _
    rw [lbound_ok R (by unfold zerosF; rw [List.length_replicate]) f.len h, ok_bind, ok_bind, F_gt]
    rfl
def leastF (z : Int) : Int := -((-(F z).1) / (F z).2)
def firstF (fx : List (Option Int)) : List Int := fx.map fun o => o.getD 0
def closesB (m : Nat) (fx : List (Option Int)) (P : List Int) (rs : List Rw) (ws : List Int) (value : Int) (told : List Int) : Bool := fitB rs ws && (decide (leastF (bndF m fx P rs ws) > value) || (decide (leastF (bndF m fx P rs ws) = value) && !(OrdE.lt (E := (eL eI)) (firstF fx) told)))
theorem closes_ok (R : Rws m rs) (hP : P.length = m) (f : Fix m fx) {value : Int} {told : List Int} : m_closes T (P, rs) fx (ws.map F) value told = .ok (closesB m fx P rs ws value told) := by
  have := R.m6
  have fl := f.len
  unfold m_closes closesB
  rw [fixing_ok T (by omega) hP f, ok_bind, arefit_ok R, ok_bind, ok_bind]
  cases hf : fitB rs ws with
  | false => rfl
  | true =>
    have h := fitB_len hf
    have hp := F_pos (bndF m fx P rs ws)
    have h6 := F_le (bndF m fx P rs ws)
    rw [if_neg (fun z => nomatch z), case_ok T R hP f h, ok_bind]
    unfold m_ceiling m_first_under
    rw [div_ok hp (by omega), ok_bind, ok_bind]
    show (if decide (leastF (bndF m fx P rs ws) > value) = true then _ else if decide (leastF (bndF m fx P rs ws) = value) = true then _ else _) = _
    rw [lc_ok (fun o => o.getD 0) (by omega), ok_bind]
    · show _ = Rs.ok (decide _ || (decide _ && _))
      cases decide (leastF (bndF m fx P rs ws) > value) <;> cases decide (leastF (bndF m fx P rs ws) = value) <;> rfl
    · intro o ho
      cases o <;> rfl
theorem lcloses_ok (R : Rws m rs) (hP : P.length = m) (f : Fix m fx) {value : Int} {told : List Int} : m_law_closes P rs fx (ws.map F) value told = .ok (closesB m fx P rs ws value told) := by
  have := R.m6
  have fl := f.len
  unfold m_law_closes closesB
  rw [lfit_ok R, ok_bind, ok_bind]
  cases hf : fitB rs ws with
  | false => rfl
  | true =>
    have h := fitB_len hf
    have hp := F_pos (bndF m fx P rs ws)
    have h6 := F_le (bndF m fx P rs ws)
    rw [if_neg (fun z => nomatch z), lbound_ok R hP fl h, ok_bind, div_ok hp (by omega), ok_bind, ok_bind]
    rw [lc_ok (fun o => o.getD 0) (by omega), ok_bind]
    · rfl
    · intro o ho
      rcases f.ok o ho with h | h | h <;> subst h <;> rfl
end
end Q

set_option Elab.async false
set_option linter.all false
set_option maxRecDepth 100000
set_option maxHeartbeats 4000000
namespace Q
open PySem PySem.Spec PyProof.Rows L2 Z R QF
variable {K : PySem.W.Frag} {mg : Str → Option Value} (T : Tx K mg)
/-! lists of 0 and 1 -/
structure Bits (m : Nat) (X : List Int) : Prop where
  len : X.length = m
  bit : ∀ x ∈ X, x = 0 ∨ x = 1
theorem lists_ok {m : Nat} (h : m ≤ 6) : ∃ Ls : List (List Int), m_law_lists (m : Int) = .ok Ls ∧ Ls.length ≤ 64 ∧ ∀ X ∈ Ls, Bits m X := by
  have hp : 2 ^ m ≤ 64 := Nat.le_trans (Nat.pow_le_pow_right (by decide) h) (by decide)
  unfold m_law_lists
  have hs : shlC 1 (m : Int) = .ok ((2 ^ m : Nat) : Int) := by
    unfold shlC
    rw [grd_t (by
      have : m = 0 ∨ m = 1 ∨ m = 2 ∨ m = 3 ∨ m = 4 ∨ m = 5 ∨ m = 6 := by omega
      rcases this with h | h | h | h | h | h | h <;> subst h <;> decide)]
    congr 1
    have : ((m : Nat) : Int).toNat = m := rfl
    rw [this, Int.one_mul]
    exact (Int.natCast_pow 2 m).symm
  rw [hs, ok_bind, rng_up (by omega), ok_bind, lc_up (fun k => (List.range m).map fun j => Builtin.bitAnd ((k : Int) / 2 ^ (m - 1 - j)) 1) (by omega)]
  · refine ⟨_, rfl, by simp; exact hp, ?_⟩
    intro X hX
    obtain ⟨k, _, rfl⟩ := List.mem_map.mp hX
    refine ⟨by simp, ?_⟩
    intro x hx
    obtain ⟨j, _, rfl⟩ := List.mem_map.mp hx
    show Builtin.bitAnd _ 1 = 0 ∨ _
    rw [bitAnd_m1]
    generalize ((k : Int) / 2 ^ (m - 1 - j)) = z
    omega
  · intro k hk
    rw [rng_up (by omega), ok_bind]
    refine lc_up (fun j => Builtin.bitAnd ((k : Int) / 2 ^ (m - 1 - j)) 1) (by omega) fun j hj => ?_
    unfold shrC
    rw [grd_t (by omega), ok_bind]
    have : ((m : Int) - 1 - (j : Int)).toNat = m - 1 - j := by omega
    rw [this]
theorem dot_range {as bs : List Int} {m : Nat} (h1 : as.length = m) (h2 : bs.length = m) : ((List.range m).map fun j => as.getD j 0 * bs.getD j 0).sum = dotF as bs := by
  unfold dotF
  congr 1
  refine List.ext_getElem (by simp [h1, h2]) ?_
  intro i a b
  have i0 : i < m := by simpa using a
  have i1 : i < as.length := by omega
  have i2 : i < bs.length := by omega
  simp [List.getElem?_eq_getElem i1, List.getElem?_eq_getElem i2]
theorem Bits.at_ {m : Nat} {X : List Int} (b : Bits m X) {j : Nat} (h : j < m) : X.getD j 0 = 0 ∨ X.getD j 0 = 1 := b.bit _ (gD_mem (by rw [b.len]; exact h))
theorem lworth_ok {m : Nat} {P X : List Int} (hm : m ≤ 6) (hP : P.length = m) (b : Bits m X) : m_law_worth P X = .ok (dotF P X) := by
  unfold m_law_worth
  rw [show lenI X = (m : Int) by unfold lenI; rw [b.len], rng_up (by omega), ok_bind, lc_up (fun j => P.getD j 0 * X.getD j 0) (by omega), ok_bind]
  · exact congrArg Rs.ok (dot_range hP b.len)
  · intro j hj
    rw [ix_k (0 : Int) (by omega), ok_bind, ix_k (0 : Int) (by rw [b.len]; omega), ok_bind]
    have := b.at_ hj
    exact mul_r (by omega)
def good1 (X : List Int) (r : Rw) : Bool := !((!decide (r.2.1 = sM) && decide (dotF r.1 X < r.2.2)) || (!decide (r.2.1 = sL) && decide (dotF r.1 X > r.2.2)))
theorem lgood_ok {m : Nat} {rs : List Rw} {X : List Int} (R : Rws m rs) (b : Bits m X) : m_law_good rs X = .ok (rs.all (good1 X)) := by
  have hm := R.m6
  unfold m_law_good
  refine bJ_all (forJ_all _ fun r hr => ?_)
  rw [show lenI X = (m : Int) by unfold lenI; rw [b.len], rng_up (by omega), ok_bind, lc_up (fun j => r.1.getD j 0 * X.getD j 0) (by omega), ok_bind, ok_bind, dot_range (R.wl r hr) b.len]
  · unfold good1
    show (if ((!decide (r.2.1 = sM) && decide (dotF r.1 X < r.2.2)) || (!decide (r.2.1 = sL) && decide (dotF r.1 X > r.2.2))) = true then _ else _) = _
    generalize ((!decide (r.2.1 = sM) && decide (dotF r.1 X < r.2.2)) || (!decide (r.2.1 = sL) && decide (dotF r.1 X > r.2.2))) = c
    cases c <;> rfl
  · intro j hj
    rw [ix_k (0 : Int) (by rw [R.wl r hr]; omega), ok_bind, ix_k (0 : Int) (by rw [b.len]; omega), ok_bind]
    have := b.at_ hj
    exact mul_r (by omega)
/-! weak duality under a fixing -/
theorem sum_scale {f g : Nat → Int} {c d : Int} : ∀ l : List Nat, (∀ j ∈ l, f j * c = d * g j) → (l.map f).sum * c = d * (l.map g).sum
  | [], _ => by simp
  | j :: l, h => by
    rw [List.map_cons, List.map_cons, List.sum_cons, List.sum_cons, Int.add_mul, Int.mul_add, h j (List.mem_cons_self ..), sum_scale l fun x hx => h x (List.mem_cons_of_mem _ hx)]
theorem sum_add2 {f g : Nat → Int} : ∀ l : List Nat, (l.map fun j => f j + g j).sum = (l.map f).sum + (l.map g).sum
  | [] => by simp
  | j :: l => by
    simp only [List.map_cons, List.sum_cons, sum_add2 l]
    omega
theorem sum_le {f g : Nat → Int} : ∀ l : List Nat, (∀ j ∈ l, f j ≤ g j) → (l.map f).sum ≤ (l.map g).sum
  | [], _ => by simp
  | j :: l, h => by
    have h1 := h j (List.mem_cons_self ..)
    have h2 := sum_le l fun x hx => h x (List.mem_cons_of_mem _ hx)
    simp only [List.map_cons, List.sum_cons]
    omega
theorem swap {m : Nat} {X : List Int} (hX : X.length = m) : ∀ (rs : List Rw) (W : List Int), (∀ r ∈ rs, r.1.length = m) → ((List.range m).map fun j => dotF (col rs j) W * X.getD j 0).sum = ((rs.zip W).map fun p => p.2 * dotF p.1.1 X).sum
  | [], W, _ => by
    have : ∀ l : List Nat, (l.map fun j => dotF (col [] j) W * X.getD j 0).sum = 0 := by
      intro l
      have := sum_scale (f := fun j => dotF (col [] j) W * X.getD j 0) (g := fun _ => 0) (c := 1) (d := 0) l (fun j _ => by show dotF [] W * _ * 1 = _; unfold dotF; simp)
      simpa using this
    rw [this]
    rfl
  | r :: rs, [], _ => by
    have : ∀ l : List Nat, (l.map fun j => dotF (col (r :: rs) j) [] * X.getD j 0).sum = 0 := by
      intro l
      have := sum_scale (f := fun j => dotF (col (r :: rs) j) [] * X.getD j 0) (g := fun _ => 0) (c := 1) (d := 0) l (fun j _ => by show dotF (col (r :: rs) j) [] * _ * 1 = _; unfold dotF; simp)
      simpa using this
    rw [this]
    rfl
  | r :: rs, w :: W, h => by
    have ih := swap hX rs W fun x hx => h x (List.mem_cons_of_mem _ hx)
    have e : ∀ j, dotF (col (r :: rs) j) (w :: W) * X.getD j 0 = r.1.getD j 0 * w * X.getD j 0 + dotF (col rs j) W * X.getD j 0 := by
      intro j
      have : dotF (col (r :: rs) j) (w :: W) = r.1.getD j 0 * w + dotF (col rs j) W := rfl
      rw [this, Int.add_mul]
    simp only [e]
    rw [sum_add2, ih]
    have e2 := sum_scale (f := fun j => r.1.getD j 0 * w * X.getD j 0) (g := fun j => r.1.getD j 0 * X.getD j 0) (c := 1) (d := w) (List.range m) (fun j _ => by grind)
    rw [Int.mul_one, dot_range (h r (List.mem_cons_self ..)) hX] at e2
    rw [e2]
    rfl
theorem gain_le {X : List Int} : ∀ (rs : List Rw) (ws : List Int), (∀ p ∈ rs.zip ws, fit1 p.1.2.1 p.2 = true) → (∀ r ∈ rs, good1 X r = true) → (∀ r ∈ rs, r.2.1 ∈ [sL, sM, sE]) → dotF (bnds rs) ws ≤ ((rs.zip ws).map fun p => p.2 * dotF p.1.1 X).sum
  | [], ws, _, _, _ => by show dotF [] _ ≤ 0; unfold dotF; simp
  | r :: rs, [], _, _, _ => by show dotF (_ :: _) [] ≤ 0; unfold dotF; simp
  | r :: rs, w :: ws, h2, h3, h4 => by
    have ih := gain_le (X := X) rs ws (fun x hx => h2 x (List.mem_cons_of_mem _ hx)) (fun x hx => h3 x (List.mem_cons_of_mem _ hx)) (fun x hx => h4 x (List.mem_cons_of_mem _ hx))
    have f := h2 (r, w) (List.mem_cons_self ..)
    have k := h3 r (List.mem_cons_self ..)
    have e := h4 r (List.mem_cons_self ..)
    show r.2.2 * w + dotF (bnds rs) ws ≤ w * dotF r.1 X + ((rs.zip ws).map fun p => p.2 * dotF p.1.1 X).sum
    have key : r.2.2 * w ≤ w * dotF r.1 X := by
      rw [Int.mul_comm]
      replace f : fit1 r.2.1 w = true := f
      unfold fit1 at f
      unfold good1 at k
      rcases List.mem_cons.mp e with e | e
      · rw [e, if_pos rfl] at f
        have f := of_decide_eq_true f
        rw [e, decide_eq_false s_LM, decide_eq_true rfl] at k
        simp only [Bool.not_false, Bool.true_and, Bool.not_true, Bool.false_and, Bool.or_false, Bool.not_eq_true', decide_eq_false_iff_not] at k
        exact Int.mul_le_mul_of_nonneg_left (by omega) f
      · rcases List.mem_cons.mp e with e | e
        · rw [e, if_neg (Ne.symm s_LM), decide_eq_false s_ME, Bool.false_or] at f
          have f := of_decide_eq_true f
          rw [e, decide_eq_false (Ne.symm s_LM), decide_eq_true rfl] at k
          simp only [Bool.not_false, Bool.true_and, Bool.not_true, Bool.false_and, Bool.false_or, Bool.not_eq_true', decide_eq_false_iff_not] at k
          exact Int.mul_le_mul_of_nonpos_left f (by omega)
        · have e := List.mem_singleton.mp e
          rw [e, decide_eq_false (Ne.symm s_LE), decide_eq_false (Ne.symm s_ME)] at k
          simp only [Bool.not_false, Bool.true_and, Bool.not_eq_true', Bool.or_eq_false_iff, decide_eq_false_iff_not] at k
          have : dotF r.1 X = r.2.2 := by omega
          rw [this]
          exact Int.le_refl _
    omega
/-- X keeps the fixing -/
def Keeps (fx : List (Option Int)) (X : List Int) (m : Nat) : Prop := ∀ j, j < m → fx.getD j none = none ∨ fx.getD j none = some (X.getD j 0)
theorem dual {m : Nat} {P X : List Int} {rs : List Rw} {ws : List Int} {fx : List (Option Int)} (R : Rws m rs) (hP : P.length = m) (b : Bits m X) (g : rs.all (good1 X) = true) (k : Keeps fx X m) (h : fitB rs ws = true) : bndF m fx P rs ws ≤ dotF P X * 6 := by
  unfold fitB at h
  rw [Bool.and_eq_true, List.all_eq_true] at h
  have h1 := gain_le (X := X) rs ws h.2 (List.all_eq_true.mp g) R.rel
  have h2 := swap b.len rs ws R.wl
  have h3 : dotF P X * 6 = ((List.range m).map fun j => restF P rs ws j * X.getD j 0).sum + ((List.range m).map fun j => dotF (col rs j) ws * X.getD j 0).sum := by
    rw [← sum_add2, ← dot_range hP b.len]
    have := sum_scale (f := fun j => P.getD j 0 * X.getD j 0) (g := fun j => restF P rs ws j * X.getD j 0 + dotF (col rs j) ws * X.getD j 0) (c := 6) (d := 1) (List.range m) (fun j _ => by unfold restF; grind)
    rw [Int.one_mul] at this
    exact this
  have h4 := sum_le (f := addF fx P rs ws) (g := fun j => restF P rs ws j * X.getD j 0) (List.range m) (by
    intro j hj
    have hj := List.mem_range.mp hj
    have hb := b.at_ hj
    have hk := k j hj
    unfold addF pickB
    generalize restF P rs ws j = r at *
    generalize X.getD j 0 = x at *
    generalize fx.getD j none = f at *
    rcases hk with hk | hk
    · subst hk
      by_cases hr : r < 0
      · rw [if_pos (by simp [hr])]
        rcases hb with hb | hb <;> subst hb <;> omega
      · rw [if_neg (by simp [hr])]
        rcases hb with hb | hb <;> subst hb <;> omega
    · subst hk
      rcases hb with hb | hb
      · subst hb
        rw [if_neg (by simp)]
        omega
      · subst hb
        rw [if_pos (by simp)]
        omega)
  unfold bndF
  omega
/-- the least whole number that is not below -/
theorem least_le {z w : Int} (h : z ≤ w * 6) : leastF z ≤ w ∧ ¬ w * (F z).2 < (F z).1 := by
  have hp := F_pos z
  have hv := F_v z
  have h1 : (F z).1 ≤ w * (F z).2 := by
    refine Int.le_of_mul_le_mul_right (a := 6) ?_ (by decide)
    have := Int.mul_le_mul_of_nonneg_right h (Int.le_of_lt hp)
    rw [hv]
    have e : w * (F z).2 * 6 = w * 6 * (F z).2 := by grind
    rw [e]
    exact this
  refine ⟨?_, by omega⟩
  unfold leastF
  have : -w ≤ (-(F z).1) / (F z).2 := Int.le_ediv_of_mul_le hp (by rw [Int.neg_mul]; omega)
  omega
/-- a list that is nowhere greater is not after -/
theorem lt_mono : ∀ (fs X told : List Int), fs.length = X.length → (∀ j, j < X.length → fs.getD j 0 ≤ X.getD j 0) → OrdE.lt (E := (eL eI)) X told = true → OrdE.lt (E := (eL eI)) fs told = true
  | [], [], told, _, _, h => h
  | [], x :: X, told, hl, _, _ => by simp at hl
  | f :: fs, [], told, hl, _, _ => by simp at hl
  | f :: fs, x :: X, [], hl, _, h => by cases h
  | f :: fs, x :: X, t :: ts, hl, hx, h => by
    have h0 : f ≤ x := hx 0 (by simp)
    have h : (if x = t then OrdE.lt (E := (eL eI)) X ts else decide (x < t)) = true := h
    show (if f = t then OrdE.lt (E := (eL eI)) fs ts else decide (f < t)) = true
    have ih := lt_mono fs X ts (by simpa using hl) (fun j hj => by have := hx (j + 1) (by simpa using hj); simpa using this)
    by_cases h1 : x = t
    · rw [if_pos h1] at h
      by_cases h2 : f = t
      · rw [if_pos h2]; exact ih h
      · rw [if_neg h2]; exact decide_eq_true (by omega)
    · rw [if_neg h1] at h
      have := of_decide_eq_true h
      rw [if_neg (by omega)]
      exact decide_eq_true (by omega)
end Q

set_option Elab.async false
set_option linter.all false
set_option maxRecDepth 100000
set_option maxHeartbeats 4000000
namespace Q
open PySem PySem.Spec PyProof.Rows L2 Z R QF
variable {K : PySem.W.Frag} {mg : Str → Option Value} (T : Tx K mg)
/-! what is true of all lists under a fixing -/
theorem first_le {fx : List (Option Int)} {X : List Int} {m : Nat} (f : Fix m fx) (b : Bits m X) (k : Keeps fx X m) : ∀ j, j < X.length → (firstF fx).getD j 0 ≤ X.getD j 0 := by
  intro j hj
  have hj : j < m := by rw [← b.len]; exact hj
  have hb := b.at_ hj
  have hk := k j hj
  have e : (firstF fx).getD j 0 = (fx.getD j none).getD 0 := by
    have i1 : j < fx.length := by rw [f.len]; exact hj
    unfold firstF
    simp [List.getElem?_eq_getElem i1]
  rw [e]
  rcases hk with hk | hk <;> rw [hk]
  · show (0 : Int) ≤ _
    omega
  · exact Int.le_refl _
theorem keeps_ok {fx : List (Option Int)} {X : List Int} {m : Nat} (hm : m ≤ 6) (f : Fix m fx) (b : Bits m X) : ((rng1C (lenI X)).bind fun xs_ => lcM (β := Bool) xs_ (fun (j : Int) => (Rs.ok true)) (fun (j : Int) => ((((ixC fx j)).bind fun u2 => Rs.ok u2.isNone).bind fun c => if c = true then Rs.ok true else (((ixC fx j)).bind fun u => (((ixC X j)).bind fun o_ => Rs.ok (some o_)).bind fun u1 => Rs.ok (decide (u = u1)))))) = .ok ((List.range m).map fun j => decide (fx.getD j none = none ∨ fx.getD j none = some (X.getD j 0))) := by
  rw [show lenI X = (m : Int) by unfold lenI; rw [b.len], rng_up (by omega), ok_bind]
  refine lc_up (fun j => decide (fx.getD j none = none ∨ fx.getD j none = some (X.getD j 0))) (by omega) fun j hj => ?_
  rw [ix_k (none : Option Int) (by rw [f.len]; exact hj), ok_bind, ok_bind, ok_bind, ix_k (0 : Int) (by rw [b.len]; exact hj), ok_bind, ok_bind]
  generalize fx.getD j none = o
  cases o with
  | none => rfl
  | some v =>
    show Rs.ok (decide (some v = some (X.getD j 0))) = _
    congr 1
    rw [decide_eq_decide]
    simp
theorem ltrue_ok {m : Nat} {P : List Int} {rs : List Rw} {ws : List Int} {fx : List (Option Int)} (R : Rws m rs) (hP : P.length = m) (f : Fix m fx) {value : Int} {told : List Int} : m_law_true rs P fx (ws.map F) value told = .ok true := by
  have hm := R.m6
  unfold m_law_true
  obtain ⟨Ls, hL, hl, hb⟩ := lists_ok (m := m) hm
  rw [ok_bind, show lenI P = (m : Int) by unfold lenI; rw [hP], hL, ok_bind]
  obtain ⟨us, hu, ul, ui⟩ := for_inv (xs := Ls) (f := fun (one : (List Int)) (under1 : (List (Int × (List Int)))) =>
  (((m_law_good rs one).bind fun c1 => if c1 = true then (((rng1C (lenI one)).bind fun xs_ => lcM (β := Bool) xs_ (fun (j : Int) => (Rs.ok true)) (fun (j : Int) => ((((ixC fx j)).bind fun u2 => Rs.ok u2.isNone).bind fun c => if c = true then Rs.ok true else (((ixC fx j)).bind fun u => (((ixC one j)).bind fun o_ => Rs.ok (some o_)).bind fun u1 => Rs.ok (decide (u = u1)))))).bind fun u3 => Rs.ok (u3.all id)) else Rs.ok false).bind fun c2 => if c2 = true then
  (((m_law_worth P one).bind fun u4 => .ok (u4, one)).bind fun u_ => (pushC under1 u_).bind fun under2 =>
  (Rs.ok under2))
  else (Rs.ok under1))) (s := []) (fun pre us => us.length ≤ pre.length ∧ ∀ u ∈ us, u.1 = dotF P u.2 ∧ Bits m u.2 ∧ rs.all (good1 u.2) = true ∧ Keeps fx u.2 m) ⟨Nat.le_refl _, fun u h => nomatch h⟩ (by
    intro pre X suf us e ⟨i1, i2⟩
    have hX : X ∈ Ls := by rw [e]; simp
    have hpl : pre.length < 64 := by have := congrArg List.length e; rw [List.length_append, List.length_cons] at this; omega
    have b := hb X hX
    rw [lgood_ok R b, ok_bind, keeps_ok hm f b, ok_bind]
    cases hg : rs.all (good1 X) with
    | false => exact ⟨us, rfl, by rw [List.length_append]; omega, i2⟩
    | true =>
      rw [if_pos rfl, ok_bind]
      cases hk : (((List.range m).map fun j => decide (fx.getD j none = none ∨ fx.getD j none = some (X.getD j 0))).all id) with
      | false => exact ⟨us, rfl, by rw [List.length_append]; omega, i2⟩
      | true =>
        rw [if_pos rfl, lworth_ok hm hP b, ok_bind, ok_bind, push_ok (by omega), ok_bind]
        refine ⟨_, rfl, by simp; omega, ?_⟩
        intro u hu
        rcases List.mem_append.mp hu with hu | hu
        · exact i2 u hu
        · rw [List.mem_singleton.mp hu]
          refine ⟨rfl, b, hg, ?_⟩
          intro j hj
          rw [List.all_map, List.all_eq_true] at hk
          exact of_decide_eq_true (hk j (List.mem_range.mpr hj)))
  rw [hu, ok_bind, lfit_ok R, ok_bind, ok_bind]
  cases hf : fitB rs ws with
  | false => rfl
  | true =>
    have hwl := fitB_len hf
    have hp := F_pos (bndF m fx P rs ws)
    have h6 := F_le (bndF m fx P rs ws)
    rw [if_neg (fun z => nomatch z), lbound_ok R hP f.len hwl, ok_bind]
    have hd : ∀ u ∈ us, leastF (bndF m fx P rs ws) ≤ u.1 ∧ ¬ u.1 * (F (bndF m fx P rs ws)).2 < (F (bndF m fx P rs ws)).1 := by
      intro u h
      obtain ⟨e, b, g, k⟩ := ui u h
      rw [e]
      exact least_le (dual R hP b g k hf)
    rw [lc_flt (fun u => decide (u.1 * (F (bndF m fx P rs ws)).2 < (F (bndF m fx P rs ws)).1)) (fun _ => (1 : Int)) (by omega) (fun u h => ⟨by rw [mul_r (by omega), ok_bind], rfl⟩), qu_ok, ok_bind, ok_bind]
    have e0 : us.filter (fun u => decide (u.1 * (F (bndF m fx P rs ws)).2 < (F (bndF m fx P rs ws)).1)) = [] := by
      rw [List.filter_eq_nil_iff]
      intro u h
      simpa using (hd u h).2
    rw [e0, ok_bind]
    show (if false = true then _ else _) = _
    rw [if_neg (fun z => nomatch z), lshows_ok R hP f, ok_bind]
    have e1 : (if showsB m fx rs ws = true then Rs.ok (decide (lenI us > 0)) else Rs.ok false) = Rs.ok false := by
      cases hs : showsB m fx rs ws with
      | false => rfl
      | true =>
        unfold showsB at hs
        rw [Bool.and_eq_true] at hs
        have hs := of_decide_eq_true hs.2
        cases us with
        | nil => rfl
        | cons u us =>
          obtain ⟨e, b, g, k⟩ := ui u (List.mem_cons_self ..)
          have := dual (P := zerosF m) R (by unfold zerosF; rw [List.length_replicate]) b g k hf
          have z : dotF (zerosF m) u.2 = 0 := by
            rw [← dot_range (m := m) (by unfold zerosF; rw [List.length_replicate]) b.len]
            have := sum_scale (f := fun j => (zerosF m).getD j 0 * u.2.getD j 0) (g := fun _ => 0) (c := 1) (d := 0) (List.range m) (fun j hj => by
              have : (zerosF m).getD j 0 = 0 := by
                unfold zerosF
                have := List.mem_range.mp hj
                simp [List.getElem?_replicate, this]
              rw [this]
              omega)
            omega
          omega
    rw [e1, ok_bind, if_neg (fun z => nomatch z), lcloses_ok R hP f, ok_bind, ok_bind]
    cases hc : closesB m fx P rs ws value told with
    | false => rfl
    | true =>
      rw [if_neg (fun z => nomatch z)]
      rw [lc_flt (fun u => OrdE.lt (E := (eT2 eI (eL eI))) u (value, told)) (fun _ => (1 : Int)) (by omega) (fun u h => ⟨rfl, rfl⟩), qu_ok, ok_bind, ok_bind]
      have e2 : us.filter (fun u => OrdE.lt (E := (eT2 eI (eL eI))) u (value, told)) = [] := by
        rw [List.filter_eq_nil_iff]
        intro u h hlt
        have hlt : (if u.1 = value then OrdE.lt (E := (eL eI)) u.2 told else decide (u.1 < value)) = true := hlt
        have h1 := (hd u h).1
        unfold closesB at hc
        rw [hf, Bool.true_and, Bool.or_eq_true, Bool.and_eq_true] at hc
        obtain ⟨e, b, g, k⟩ := ui u h
        by_cases hv : u.1 = value
        · rw [if_pos hv] at hlt
          have := lt_mono (firstF fx) u.2 told (by unfold firstF; rw [List.length_map, f.len, b.len]) (first_le f b k) hlt
          rw [this] at hc
          rcases hc with hc | hc
          · have := of_decide_eq_true hc; omega
          · exact absurd hc.2 (by decide)
        · rw [if_neg hv] at hlt
          have hlt := of_decide_eq_true hlt
          rcases hc with hc | hc
          · have := of_decide_eq_true hc; omega
          · have := of_decide_eq_true hc.1; omega
      rw [e2]
      rfl
/-! refusals -/
theorem refused_ex {p : Ob_Program} {fx : List (Option Int)} {wt : List (Int × Int)} {way : Int} {C : Addr} {n : Int} (h : m_need_fixing T p fx = .ex C n) {v : Option ((List Bool) × Int)} (he : PySem.W.exmOne K (.ref C) (.ref T.c_WebError) = some true) (hs : sm_law_refused T C n = .ok v) : m_law_refused T way p fx wt = .ok v := by
  have e1 : m_case_bound T p fx wt = .ex C n := by unfold m_case_bound; rw [h]; rfl
  have e2 : m_shows_none T p fx wt = .ex C n := by unfold m_shows_none; rw [h]; rfl
  have e3 : m_closes T p fx wt 0 [] = .ex C n := by unfold m_closes; rw [h]; rfl
  unfold m_law_refused
  rw [e1, e2, e3]
  have : (if decide (way = 0) = true then (Rs.ex C n).bind fun (_ : Int × Int) => Rs.ok (J.nx (α := Option ((List Bool) × Int)) ()) else if decide (way = 1) = true then (Rs.ex C n).bind fun (_ : Bool) => Rs.ok (J.nx ()) else (Rs.ex C n).bind fun (_ : Bool) => Rs.ok (J.nx ())) = Rs.ex C n := by
    cases decide (way = 0) <;> cases decide (way = 1) <;> rfl
  rw [this]
  show bindJ (hndM K T.c_WebError C (sm_law_refused T C n) _) _ = _
  unfold hndM
  rw [if_pos he, hs, qu_ok]
  rfl
theorem isx {C D : Addr} {b : Bool} (h : C ∈ T.kn) (k : PySem.W.kitOne K (.ref C) (.ref D) = some b) : isXC K T.kn C D = .ok b := by
  unfold isXC
  rw [grd_t h, k]
  rfl
theorem kn_many : T.c_TooMany ∈ T.kn := by unfold Tx.kn; simp
theorem kn_size : T.c_WrongSize ∈ T.kn := by unfold Tx.kn; simp
theorem kn_bad : T.c_BadFixing ∈ T.kn := by unfold Tx.kn; simp
theorem sm_many (n : Int) : sm_law_refused T T.c_TooMany n = .ok (some ([true, false, false], n)) := by
  unfold sm_law_refused
  rw [isx T (kn_many T) T.is_TooMany_TooMany, isx T (kn_many T) T.is_TooMany_WrongSize, isx T (kn_many T) T.is_TooMany_BadFixing, grd_t (kn_many T)]
  rfl
theorem sm_size (n : Int) : sm_law_refused T T.c_WrongSize n = .ok (some ([false, true, false], n)) := by
  unfold sm_law_refused
  rw [isx T (kn_size T) T.is_WrongSize_TooMany, isx T (kn_size T) T.is_WrongSize_WrongSize, isx T (kn_size T) T.is_WrongSize_BadFixing, grd_t (kn_size T)]
  rfl
theorem sm_bad (n : Int) : sm_law_refused T T.c_BadFixing n = .ok (some ([false, false, true], n)) := by
  unfold sm_law_refused
  rw [isx T (kn_bad T) T.is_BadFixing_TooMany, isx T (kn_bad T) T.is_BadFixing_WrongSize, isx T (kn_bad T) T.is_BadFixing_BadFixing, grd_t (kn_bad T)]
  rfl
theorem refused_size {m : Nat} {P : List Int} {rs : List Rw} {ws : List Int} {fx : List (Option Int)} (R : Rws m rs) (hP : P.length = m) (f : Fix m fx) (h : ws.length ≠ rs.length) : m_law_refused T 0 (P, rs) fx (ws.map F) = .ok (some ([false, true, false], 0)) := by
  have hm := R.m6
  have hl := R.rl
  have e1 : m_case_bound T (P, rs) fx (ws.map F) = .ex T.c_WrongSize 0 := by
    unfold m_case_bound m_Program_prices
    rw [fixing_ok T (by omega) hP f, ok_bind, ok_bind]
    unfold m_bound_with m_gain
    rw [rows_ok P (by omega), ok_bind, scfor_ex T h]
    rfl
  unfold m_law_refused
  rw [e1]
  show bindJ (hndM K T.c_WebError T.c_WrongSize (sm_law_refused T T.c_WrongSize 0) _) _ = _
  unfold hndM
  rw [if_pos T.em_WrongSize, sm_size, qu_ok]
  rfl
theorem init_ok {m : Nat} {P : List Int} {rs : List Rw} (h1 : 1 ≤ P.length) (h2 : P.length ≤ 40) (h3 : rs.length ≤ 80) (h4 : ∀ r ∈ rs, r.1.length = P.length ∧ r.2.1 ∈ [sL, sM, sE]) : m_Program___init__ T P rs = .ok (P, rs) := by
  unfold m_Program___init__
  have e1 : (!(decide (1 ≤ lenI P) && decide (lenI P ≤ 40))) = false := by
    rw [decide_eq_true (show 1 ≤ lenI P by unfold lenI; omega), decide_eq_true (show lenI P ≤ 40 by unfold lenI; omega)]; rfl
  have e2 : decide (lenI rs > 80) = false := decide_eq_false (by unfold lenI; omega)
  rw [e1, e2, if_neg (fun z => nomatch z), if_neg (fun z => nomatch z)]
  obtain ⟨s, hs, _⟩ := for_inv (xs := enumL rs) (f := fun (x : (Int × ((List Int) × Str × Int))) (_ : Unit) =>
  (if (!decide ((lenI x.2.1) = (lenI P))) = true then
  (Rs.ex T.c_WrongSize x.1)
  else (if (if true then !decide (x.2.2.1 ∈ [PySem.Str.ofString "least", PySem.Str.ofString "most", PySem.Str.ofString "equal"]) else decide (x.2.2.1 ∈ [PySem.Str.ofString "least", PySem.Str.ofString "most", PySem.Str.ofString "equal"])) = true then
  (Rs.ex T.c_BadRelation x.1)
  else (Rs.ok ())))) (s := ()) (fun _ _ => True) trivial (by
    intro pre a suf s e _
    have ha : a.2 ∈ rs := by
      have : a ∈ enumL rs := by rw [e]; simp
      unfold enumL at this
      obtain ⟨q, hq, rfl⟩ := List.mem_map.mp this
      exact (List.mem_zipIdx hq).2.2 ▸ List.getElem_mem _
    have := h4 _ ha
    refine ⟨(), ?_, trivial⟩
    rw [decide_eq_true (show lenI a.2.1 = lenI P by unfold lenI; rw [this.1]), if_neg (fun z => nomatch z), if_pos rfl, decide_eq_true this.2]
    rfl)
  rw [hs, ok_bind, lc_ok (fun x : Rw => x) (by omega) (fun _ _ => rfl), ok_bind, List.map_id']
theorem refusals_ok {m : Nat} {P : List Int} {rs : List Rw} {ws : List Int} {fx : List (Option Int)} {ns : List Int} (N : Nums ns 260) (R : Rws m rs) (hP : P.length = m) (f : Fix m fx) (hw : ws.length = rs.length) : m_law_refusals T (cutT ns (some 230) (some 240)) (P, rs) fx (ws.map F) = .ok true := by
  have hm := R.m6
  have hm1 := R.m1
  have hl := R.rl
  have hc : (cutT ns (some 230) (some 240)).length = 10 ∧ ∀ x ∈ cutT ns (some 230) (some 240), 0 ≤ x ∧ x < 65536 := by
    unfold cutT
    rw [show (some (230 : Int)) = some ((230 : Nat) : Int) from rfl, show (some (240 : Int)) = some ((240 : Nat) : Int) from rfl, HT.sIx_nat, HT.sIx_nat, N.len]
    refine ⟨by rw [List.length_take, List.length_drop, N.len]; decide, ?_⟩
    intro x hx
    exact N.bd x (List.mem_of_mem_drop (List.mem_of_mem_take hx))
  have C : Nums (cutT ns (some 230) (some 240)) 10 := ⟨hc.1, hc.2⟩
  generalize cutT ns (some 230) (some 240) = cs at *
  obtain ⟨v0, a0, b0, c0⟩ := C.at_ (i := 0) (by decide) (by decide)
  obtain ⟨v1, a1, b1, c1⟩ := C.at_ (i := 1) (by decide) (by decide)
  obtain ⟨v2, a2, b2, c2⟩ := C.at_ (i := 2) (by decide) (by decide)
  unfold m_law_refusals
  rw [a0, ok_bind, ok_bind, ok_bind, ok_bind]
  obtain ⟨w, hwd⟩ : ∃ w : Nat, (w : Int) = 17 + v0 % 9 := ⟨(17 + v0 % 9).toNat, by omega⟩
  have hw17 : 17 ≤ w ∧ w ≤ 25 := by omega
  rw [← hwd, rep_ok (by omega), ok_bind]
  rw [init_ok (m := m) T (by rw [List.length_replicate]; omega) (by rw [List.length_replicate]; omega) (by decide) (by intro r h; cases h), ok_bind, a1, ok_bind, ok_bind]
  have hlf : lenI fx = (m : Int) := by unfold lenI; rw [f.len]
  rw [hlf, mod_ok (by omega), ok_bind]
  obtain ⟨at', hat⟩ : ∃ k : Nat, (k : Int) = v1 % (m : Int) := ⟨(v1 % (m : Int)).toNat, by have := Int.emod_nonneg v1 (show (m : Int) ≠ 0 by omega); omega⟩
  have hatm : at' < m := by have := Int.emod_lt_of_pos v1 (show (0 : Int) < m by omega); omega
  rw [← hat, a2, ok_bind, ok_bind, ok_bind]
  obtain ⟨bd, hbd, hbn⟩ : ∃ b : Int, ixC ([2, (-1), 7] : List Int) (v2 % 3) = .ok b ∧ b ∉ ([0, 1] : List Int) := by
    have : v2 % 3 = 0 ∨ v2 % 3 = 1 ∨ v2 % 3 = 2 := by omega
    rcases this with h | h | h <;> rw [h]
    · exact ⟨2, rfl, by decide⟩
    · exact ⟨-1, rfl, by decide⟩
    · exact ⟨7, rfl, by decide⟩
  rw [hbd, ok_bind, ok_bind, ok_bind]
  have k1 : cutT fx none (some (at' : Int)) = fx.take at' := by
    unfold cutT
    rw [HT.sIx_none, HT.sIx_nat, List.drop_zero, f.len, Nat.min_eq_left (by omega)]
    rfl
  have k2 : cutT fx (some ((at' : Int) + 1)) none = fx.drop (at' + 1) := by
    unfold cutT
    rw [HT.sIx_none, show (some ((at' : Int) + 1)) = some ((at' + 1 : Nat) : Int) from rfl, HT.sIx_nat, f.len, Nat.min_eq_left (by omega), List.take_of_length_le]
    rw [List.length_drop, f.len]
    exact Nat.le_refl _
  have fl := f.len
  rw [k1, cat_ok (by rw [List.length_take]; simp; omega), ok_bind, k2, cat_ok (by simp; omega), ok_bind]
  have eb : fx.take at' ++ [some bd] ++ fx.drop (at' + 1) = fx.take at' ++ some bd :: fx.drop (at' + 1) := by simp
  have lb : (fx.take at' ++ some bd :: fx.drop (at' + 1)).length = m := by simp; omega
  rw [eb]
  have hmany : ∀ way : Int, m_law_refused T way (List.replicate w 1, []) (fx.take at' ++ some bd :: fx.drop (at' + 1)) [] = .ok (some ([true, false, false], lenI (List.replicate w (1 : Int)))) := fun way => refused_ex T (fixing_many T (by rw [List.length_replicate]; omega)) T.em_TooMany (sm_many T _)
  have hsize : ∀ (way : Int) (wt : List (Int × Int)), m_law_refused T way (P, rs) (fx.take at' ++ some bd :: fx.drop (at' + 1) ++ [some 5]) wt = .ok (some ([false, true, false], 0)) := fun way wt => refused_ex T (fixing_size T (by omega) (by rw [List.length_append, lb, hP]; simp)) T.em_WrongSize (sm_size T _)
  have hbad : ∀ (way : Int) (wt : List (Int × Int)), m_law_refused T way (P, rs) (fx.take at' ++ some bd :: fx.drop (at' + 1)) wt = .ok (some ([false, false, true], (at' : Int))) := fun way wt => by
    refine refused_ex T (fixing_bad T (by omega) (by rw [lb, hP]) (fun o ho => f.ok o (List.mem_of_mem_take ho)) hbn) T.em_BadFixing ?_
    rw [sm_bad]
    have : (fx.take at').length = at' := by rw [List.length_take]; omega
    rw [this]
  have e10 : (ws.map F) ++ [((0 : Int), (1 : Int))] = (ws ++ [0]).map F := by rw [List.map_append, List.map_cons, F_zero]; rfl
  have c10 : catC (ws.map F) [((0 : Int), (1 : Int))] = .ok ((ws ++ [0]).map F) := by rw [cat_ok (by rw [List.length_map]; simp; omega), e10]
  obtain ⟨u, hu, _⟩ := forJ_nx (β := Bool) (xs := rngL 0 3) (f := fun (way : Int) (_ : Unit) =>
  (((m_law_refused T way (List.replicate w 1, []) (fx.take at' ++ some bd :: fx.drop (at' + 1)) ([] : List (Int × Int))).bind fun u14 => (((m_Program_count (List.replicate w 1, [])).bind fun u13 => .ok (([true, false, false] : List Bool), u13)).bind fun o_ => Rs.ok (some o_)).bind fun u15 => Rs.ok (!decide (u14 = u15))).bind fun c2 => if c2 = true then
  (Rs.ok (LO.ex false))
  else (((((catC (fx.take at' ++ some bd :: fx.drop (at' + 1)) ([(some 5)] : List (Option Int)))).bind fun u16 => m_law_refused T way (P, rs) u16 (ws.map F)).bind fun u17 => Rs.ok (!decide (u17 = (some (([false, true, false] : List Bool), 0))))).bind fun c1 => if c1 = true then
  (Rs.ok (LO.ex false))
  else (((((catC (ws.map F) ([(1, 1)] : List (Int × Int)))).bind fun u18 => m_law_refused T way (P, rs) (fx.take at' ++ some bd :: fx.drop (at' + 1)) u18).bind fun u19 => Rs.ok (!decide (u19 = (some (([false, false, true] : List Bool), (at' : Int)))))).bind fun c => if c = true then
  (Rs.ok (LO.ex false))
  else (Rs.ok (LO.nx ())))))) (s := ()) (fun _ _ => True) trivial (by
    intro pre way suf s e _
    refine ⟨(), ?_, trivial⟩
    unfold m_Program_count
    rw [hmany, ok_bind, ok_bind, ok_bind, ok_bind, ok_bind, decide_eq_true rfl]
    show Rs.bind (Rs.bind (Rs.bind (catC _ _) _) _) _ = _
    rw [cat_ok (by rw [lb]; simp; omega), ok_bind, hsize, ok_bind, decide_eq_true rfl, ok_bind]
    show Rs.bind (Rs.bind (Rs.bind (catC _ _) _) _) _ = _
    rw [cat_ok (by rw [List.length_map]; simp; omega), ok_bind, hbad, ok_bind, decide_eq_true rfl, ok_bind]
    rfl)
  rw [hu, bindJ_nx, c10, ok_bind, refused_size T R hP f (by simp; omega), ok_bind, decide_eq_true rfl]
end Q

set_option Elab.async false
set_option linter.all false
set_option maxRecDepth 100000
set_option maxHeartbeats 4000000
namespace Q
open PySem PySem.Spec PyProof.Rows L2 Z R QF
variable {K : PySem.W.Frag} {mg : Str → Option Value} (T : Tx K mg)
/-! what the law draws -/
theorem lcG_ex {α β : Type} {q : α → Rs β} (Q : β → Prop) : ∀ xs : List α, (∀ a ∈ xs, ∃ v, q a = .ok v ∧ Q v) → ∃ vs, lcG (fun _ => .ok true) q xs = .ok vs ∧ vs.length = xs.length ∧ ∀ v ∈ vs, Q v
  | [], _ => ⟨[], rfl, rfl, fun v h => nomatch h⟩
  | a :: as, h => by
    obtain ⟨v, h1, h2⟩ := h a (List.mem_cons_self ..)
    obtain ⟨vs, h3, h4, h5⟩ := lcG_ex Q as fun x hx => h x (List.mem_cons_of_mem _ hx)
    refine ⟨v :: vs, by rw [lcG, qu_ok, ok_bind, if_pos rfl, h1, qu_ok, ok_bind, h3]; rfl, by rw [List.length_cons, h4, List.length_cons], ?_⟩
    intro x hx
    rcases List.mem_cons.mp hx with rfl | hx
    · exact h2
    · exact h5 x hx
theorem lc_ex {β : Type} {n : Nat} {q : Int → Rs β} (Q : β → Prop) (hn : n ≤ 100000) (h : ∀ k : Int, 0 ≤ k → k < n → ∃ v, q k = .ok v ∧ Q v) : ∃ vs, lcM (upto n) (fun _ => .ok true) q = .ok vs ∧ vs.length = n ∧ ∀ v ∈ vs, Q v := by
  obtain ⟨vs, h1, h2, h3⟩ := lcG_ex Q (upto n) fun a ha => h a (mem_upto.mp ha).1 (mem_upto.mp ha).2
  refine ⟨vs, ?_, by rw [h2, upto_len], h3⟩
  unfold lcM
  rw [grd_t (by rw [upto_len]; exact hn), h1]
theorem sum_nat {B : Nat} : ∀ xs : List Int, (∀ x ∈ xs, x.natAbs ≤ B) → xs.sum.natAbs ≤ xs.length * B
  | [], _ => by simp
  | x :: xs, h => by
    have h1 := h x (List.mem_cons_self ..)
    have h2 := sum_nat xs fun y hy => h y (List.mem_cons_of_mem _ hy)
    rw [List.sum_cons, List.length_cons, Nat.succ_mul]
    omega
theorem ix3 {a b c : Int} {i : Int} (h : 0 ≤ i) (h2 : i < 3) : ∃ v, ixC ([a, b, c] : List Int) i = .ok v ∧ (v = a ∨ v = b ∨ v = c) := by
  have : i = 0 ∨ i = 1 ∨ i = 2 := by omega
  rcases this with h | h | h <;> subst h
  · exact ⟨a, rfl, .inl rfl⟩
  · exact ⟨b, rfl, .inr (.inl rfl)⟩
  · exact ⟨c, rfl, .inr (.inr rfl)⟩
theorem program_ok {ns : List Int} (N : Nums ns 260) : ∃ (m : Nat) (P : List Int) (rs : List Rw), m_law_program ns 10 6 5 = .ok ((m : Int), P, rs) ∧ Rws m rs ∧ P.length = m := by
  obtain ⟨v0, a0, b0, c0⟩ := N.at_ (i := 10) (by decide) (by decide)
  obtain ⟨v1, a1, b1, c1⟩ := N.at_ (i := 10 + 1) (by decide) (by decide)
  obtain ⟨v2, a2, b2, c2⟩ := N.at_ (i := 10 + 20) (by decide) (by decide)
  obtain ⟨m, hm⟩ : ∃ m : Nat, (m : Int) = 1 + v0 % 6 := ⟨(1 + v0 % 6).toNat, by omega⟩
  have hm6 : 1 ≤ m ∧ m ≤ 6 := by omega
  obtain ⟨n, hn⟩ : ∃ n : Nat, (n : Int) = v2 % (5 + 1) := ⟨(v2 % 6).toNat, by omega⟩
  have hn5 : n ≤ 5 := by omega
  obtain ⟨W, hW⟩ : ∃ W : Int, W = 1 + v1 % 5 := ⟨_, rfl⟩
  have hW5 : 1 ≤ W ∧ W ≤ 5 := by omega
  unfold m_law_program
  rw [a0, ok_bind, ok_bind, mod_ok (by decide), ok_bind, ok_bind, ← hm, a1, ok_bind, ok_bind, ok_bind, ok_bind, ← hW, rng_up (by omega), ok_bind]
  obtain ⟨P, hP, hPl, _⟩ := lc_ex (n := m) (q := fun (j : Int) => (((((ixC ns ((10 + 2) + j))).bind fun u6 => Rs.ok u6).bind fun u7 => (modC u7 ((2 * W) + 3))).bind fun u12 => (((((Rs.ok v1)).bind fun u9 => Rs.ok (u9 / 5)).bind fun u10 => Rs.ok (u10 % 3)).bind fun u11 => (ixC ([0, 1, (W + 1)] : List Int) u11)).bind fun u13 => Rs.ok (u12 - u13))) (fun _ => True) (by omega) (by
    intro j h0 h1
    obtain ⟨u, e1, _, _⟩ := N.at_ (i := 10 + 2 + j) (by omega) (by omega)
    obtain ⟨x, e2, _⟩ := ix3 (a := 0) (b := 1) (c := W + 1) (i := v1 / 5 % 3) (by omega) (by omega)
    exact ⟨u % (2 * W + 3) - x, by rw [e1, ok_bind, ok_bind, mod_ok (by omega), ok_bind, ok_bind, ok_bind, ok_bind, e2, ok_bind], trivial⟩)
  rw [hP, ok_bind, ok_bind, a2, ok_bind, ok_bind, mod_ok (by decide), ok_bind, ← hn, rng_up (by omega), ok_bind]
  obtain ⟨rs, hr, i1, i2⟩ := for_upto (n := n) (f := fun (k : Int) (rows1 : (List ((List Int) × Str × Int))) =>
  ((((ixC ns ((10 + 21) + k))).bind fun u17 => Rs.ok u17).bind fun drawn =>
  (((Rs.ok (upto m)).bind fun xs_ => lcM (β := Int) xs_ (fun (j1 : Int) => (Rs.ok true)) (fun (j1 : Int) => (((((((((((mulC k (m : Int))).bind fun u18 => Rs.ok (u18 + j1)).bind fun u19 => Rs.ok u19).bind fun u20 => Rs.ok (u20 % 50)).bind fun u21 => Rs.ok ((10 + 32) + u21)).bind fun u22 => (ixC ns u22)).bind fun u23 => Rs.ok (u23 + (13 * k))).bind fun u24 => Rs.ok u24).bind fun u25 => (modC u25 (W + 2))).bind fun u26 => ((mulC (drawn % 2) (1 + (W / 2)))).bind fun u27 => Rs.ok (u26 - u27)))).bind fun line =>
  (((ixC ([(PySem.Str.ofString "least"), (PySem.Str.ofString "most"), (PySem.Str.ofString "least"), (PySem.Str.ofString "least"), (PySem.Str.ofString "most"), (PySem.Str.ofString "equal")] : List Str) ((drawn / 2) % 6))).bind fun relation =>
  ((((Rs.ok (upto m)).bind fun xs_ => lcM (β := Int) xs_ (fun (j2 : Int) => (Rs.ok true)) (fun (j2 : Int) => (((ixC line j2)).bind fun u31 => (((((ixC ns ((10 + 2) + j2))).bind fun u28 => Rs.ok u28).bind fun u29 => Rs.ok (u29 / 16)).bind fun u30 => Rs.ok (u30 % 2)).bind fun u32 => (mulC u31 u32)))).bind fun u33 => Rs.ok u33.sum).bind fun total =>
  (((((ixC ([0, 0, 1, (-1), 2] : List Int) ((drawn / 12) % 5))).bind fun u34 => Rs.ok (total + u34)).bind fun u35 => .ok (line, relation, u35)).bind fun u_ => (pushC rows1 u_).bind fun rows2 =>
  (Rs.ok rows2))))))) (s := []) (fun k rs => rs.length = k ∧ ∀ r ∈ rs, r.1.length = m ∧ (∀ x ∈ r.1, x.natAbs < 1000000) ∧ r.2.2.natAbs < 1000000 ∧ r.2.1 ∈ [sL, sM, sE]) ⟨rfl, fun r h => nomatch h⟩ (by
    intro k rs hk ⟨i1, i2⟩
    obtain ⟨d, e1, d0, d1⟩ := N.at_ (i := 10 + 21 + (k : Int)) (by omega) (by omega)
    rw [e1, ok_bind, ok_bind, ok_bind]
    obtain ⟨line, hl, hll, hlb⟩ := lc_ex (n := m) (q := fun (j1 : Int) => (((((((((((mulC (k : Int) (m : Int))).bind fun u18 => Rs.ok (u18 + j1)).bind fun u19 => Rs.ok u19).bind fun u20 => Rs.ok (u20 % 50)).bind fun u21 => Rs.ok ((10 + 32) + u21)).bind fun u22 => (ixC ns u22)).bind fun u23 => Rs.ok (u23 + (13 * (k : Int)))).bind fun u24 => Rs.ok u24).bind fun u25 => (modC u25 (W + 2))).bind fun u26 => ((mulC (d % 2) (1 + (W / 2)))).bind fun u27 => Rs.ok (u26 - u27))) (fun x => x.natAbs ≤ 20) (by omega) (by
      intro j h0 h1
      rw [mul_r (by omega), ok_bind, ok_bind, ok_bind, ok_bind]
      generalize (k : Int) * (m : Int) + j = z
      obtain ⟨u, e2, _, _⟩ := N.at_ (i := 10 + 32 + z % 50) (by omega) (by omega)
      rw [ok_bind, e2, ok_bind, ok_bind, ok_bind, mod_ok (by omega), ok_bind, mul_r (by omega), ok_bind]
      refine ⟨_, rfl, ?_⟩
      have h3 := Int.emod_nonneg (u + 13 * (k : Int)) (show W + 2 ≠ 0 by omega)
      have h4 := Int.emod_lt_of_pos (u + 13 * (k : Int)) (show 0 < W + 2 by omega)
      have h5 : d % 2 = 0 ∨ d % 2 = 1 := by omega
      rcases h5 with h5 | h5 <;> rw [h5] <;> omega)
    rw [hl, ok_bind]
    obtain ⟨rel, hrel, hre⟩ : ∃ r, ixC ([sL, sM, sL, sL, sM, sE] : List Str) ((d / 2) % 6) = .ok r ∧ r ∈ [sL, sM, sE] := by
      refine ⟨_, ix_d sL (by omega) (by show _ < (6 : Int); omega), ?_⟩
      have : ∀ i : Nat, i < 6 → ([sL, sM, sL, sL, sM, sE] : List Str).getD i sL ∈ [sL, sM, sE] := by
        intro i hi
        have : i = 0 ∨ i = 1 ∨ i = 2 ∨ i = 3 ∨ i = 4 ∨ i = 5 := by omega
        rcases this with h | h | h | h | h | h <;> subst h
        · exact List.mem_cons_self ..
        · exact List.mem_cons_of_mem _ (List.mem_cons_self ..)
        · exact List.mem_cons_self ..
        · exact List.mem_cons_self ..
        · exact List.mem_cons_of_mem _ (List.mem_cons_self ..)
        · exact List.mem_cons_of_mem _ (List.mem_cons_of_mem _ (List.mem_cons_self ..))
      exact this _ (by omega)
    rw [hrel, ok_bind, ok_bind]
    obtain ⟨ts, ht, htl, htb⟩ := lc_ex (n := m) (q := fun (j2 : Int) => (((ixC line j2)).bind fun u31 => (((((ixC ns ((10 + 2) + j2))).bind fun u28 => Rs.ok u28).bind fun u29 => Rs.ok (u29 / 16)).bind fun u30 => Rs.ok (u30 % 2)).bind fun u32 => (mulC u31 u32))) (fun x => x.natAbs ≤ 20) (by omega) (by
      intro j h0 h1
      obtain ⟨u, e2, _, _⟩ := N.at_ (i := 10 + 2 + j) (by omega) (by omega)
      rw [ix_d (0 : Int) h0 (by omega), ok_bind, e2, ok_bind, ok_bind, ok_bind, ok_bind, mul_r (by omega)]
      refine ⟨_, rfl, ?_⟩
      have h3 := hlb _ (gD_mem (xs := line) (k := j.toNat) (d := 0) (by omega))
      have h5 : u / 16 % 2 = 0 ∨ u / 16 % 2 = 1 := by omega
      rcases h5 with h5 | h5 <;> rw [h5] <;> omega)
    rw [ht, ok_bind, ok_bind]
    obtain ⟨x, hx, hxb⟩ : ∃ x, ixC ([0, 0, 1, (-1), 2] : List Int) ((d / 12) % 5) = .ok x ∧ x.natAbs ≤ 2 := by
      refine ⟨_, ix_d (0 : Int) (by omega) (by show _ < (5 : Int); omega), ?_⟩
      have : ∀ i : Nat, i < 5 → (([0, 0, 1, (-1), 2] : List Int).getD i 0).natAbs ≤ 2 := by
        intro i hi
        have : i = 0 ∨ i = 1 ∨ i = 2 ∨ i = 3 ∨ i = 4 := by omega
        rcases this with h | h | h | h | h <;> subst h <;> decide
      exact this _ (by omega)
    rw [hx, ok_bind, ok_bind, ok_bind, push_ok (by omega), ok_bind]
    refine ⟨_, rfl, by rw [List.length_append, i1]; rfl, ?_⟩
    intro r hr
    rcases List.mem_append.mp hr with hr | hr
    · exact i2 r hr
    · rw [List.mem_singleton.mp hr]
      refine ⟨hll, fun y hy => by have := hlb y hy; omega, ?_, hre⟩
      show (ts.sum + x).natAbs < 1000000
      have := sum_nat ts htb
      rw [htl] at this
      omega)
  rw [hr, ok_bind]
  exact ⟨m, P, rs, rfl, ⟨hm6.1, hm6.2, by omega, fun r h => (i2 r h).1, fun r h => (i2 r h).2.1, fun r h => (i2 r h).2.2.1, fun r h => (i2 r h).2.2.2⟩, hPl⟩
theorem some_ok {ns : List Int} (N : Nums ns 260) (k : Int) : ∃ w : Int, m_law_some ns 160 k = .ok (F w) ∧ w.natAbs ≤ 100 := by
  obtain ⟨v0, a0, b0, c0⟩ := N.at_ (i := 160 + k % 30) (by omega) (by omega)
  obtain ⟨v1, a1, b1, c1⟩ := N.at_ (i := 160 + (k + 5) % 30) (by omega) (by omega)
  unfold m_law_some
  rw [a0, ok_bind, ok_bind, ok_bind, ok_bind, a1, ok_bind, ok_bind, ok_bind, ok_bind, ok_bind]
  have hq : 1 + v1 / 9 % 3 = 1 ∨ 1 + v1 / 9 % 3 = 2 ∨ 1 + v1 / 9 % 3 = 3 := by omega
  rcases hq with h | h | h <;> rw [h, lowest_ok (by decide) (by decide)]
  · exact ⟨(v0 % 9 - 3) * 6, congrArg Rs.ok (F_low (by decide) (by omega)), by omega⟩
  · exact ⟨(v0 % 9 - 3) * 3, congrArg Rs.ok (F_low (by decide) (by omega)), by omega⟩
  · exact ⟨(v0 % 9 - 3) * 2, congrArg Rs.ok (F_low (by decide) (by omega)), by omega⟩
theorem list_F : ∀ vs : List (Int × Int), (∀ v ∈ vs, ∃ w : Int, v = F w ∧ w.natAbs ≤ 100) → ∃ ws : List Int, vs = ws.map F ∧ ∀ w ∈ ws, w.natAbs ≤ 100
  | [], _ => ⟨[], rfl, fun w h => nomatch h⟩
  | v :: vs, h => by
    obtain ⟨w, h1, h2⟩ := h v (List.mem_cons_self ..)
    obtain ⟨ws, h3, h4⟩ := list_F vs fun x hx => h x (List.mem_cons_of_mem _ hx)
    refine ⟨w :: ws, by rw [h1, h3]; rfl, ?_⟩
    intro x hx
    rcases List.mem_cons.mp hx with rfl | hx
    · exact h2
    · exact h4 x hx
/-! repr -/
theorem sm_none {k : Nat} : Sm k 40 .none := ⟨sh_none, by rw [PyData.weight]; decide, by rw [PyData.intsShort], by rw [PyData.showable]⟩
theorem repr_ok {m : Nat} {fx : List (Option Int)} {ws : List Int} {told : List Int} (hm : m ≤ 6) (f : Fix m fx) (hw : ws.length ≤ 5) (hb : ∀ w ∈ ws, w.natAbs ≤ 100) (ht : told.length ≤ 6) (htb : ∀ x ∈ told, x.natAbs ≤ 1) : ∃ s, reprC (eT3 (eL (eO eI)) (eL (eT2 eI eI)) (eL eI)) (fx, ws.map F, told) = .ok s := by
  have fl := f.len
  have s1 : Sm 4 1000 ((eL (eO eI)).e fx) := by
    refine Sm.mono (k := 1) (sm_list (k := 0) (w := 40) (sm_map fun o ho => ?_) (W := 1000) (by rw [List.length_map]; omega)) (by omega) (Nat.le_refl _)
    rcases f.ok o ho with h | h | h <;> subst h
    · exact sm_none
    · exact sm_int (by decide)
    · exact sm_int (by decide)
  have s2 : Sm 4 1000 ((eL (eT2 eI eI)).e (ws.map F)) := by
    refine Sm.mono (k := 2) (sm_list (k := 1) (w := 100) (sm_map fun p hp => ?_) (W := 1000) (by rw [List.length_map, List.length_map]; omega)) (by omega) (Nat.le_refl _)
    obtain ⟨w, h, rfl⟩ := List.mem_map.mp hp
    have h1 := hb w h
    have h2 := F_num w
    have h3 := F_le w
    exact sm_tup (k := 0) (w := 40) (sm_cons (sm_int (by omega)) (sm_cons (sm_int (by omega)) sm_nil)) (by show 2 * 41 ≤ 100; decide)
  have s3 : Sm 4 1000 ((eL eI).e told) := by
    refine Sm.mono (k := 1) (sm_list (k := 0) (w := 40) (sm_map fun x hx => ?_) (W := 1000) (by rw [List.length_map]; omega)) (by omega) (Nat.le_refl _)
    have := htb x hx
    exact sm_int (by omega)
  have S : Sm 5 4000 ((eT3 (eL (eO eI)) (eL (eT2 eI eI)) (eL eI)).e (fx, ws.map F, told)) := sm_tup (k := 4) (w := 1000) (sm_cons s1 (sm_cons s2 (sm_cons s3 sm_nil))) (by show 3 * 1001 ≤ 4000; decide)
  unfold reprC
  refine ⟨_, grd_t ?_⟩
  unfold reprOk
  rw [S.show_, PyData.hasDict_of_canLay _ S.sh.lay, decide_eq_true (Nat.le_trans S.sh.deep (by decide)), decide_eq_true (S.len (by decide) (by decide))]
  rfl
end Q

set_option Elab.async false
set_option linter.all false
set_option maxRecDepth 100000
set_option maxHeartbeats 4000000
namespace Q
open PySem PySem.Spec PyProof.Rows L2 Z R QF
variable {K : PySem.W.Frag} {mg : Str → Option Value} (T : Tx K mg)
theorem bJ_loop {α σ β : Type} {f : α → σ → Rs (LO σ β)} {g : σ → Rs β} {xs : List α} {s : σ} {r : Rs β} (I : List α → σ → Prop) (h0 : I [] s) (h : ∀ pre a suf s, xs = pre ++ a :: suf → I pre s → ∃ s', f a s = .ok (.nx s') ∧ I (pre ++ [a]) s') (k : ∀ s, I xs s → g s = r) : bindJ (forJ f xs s) g = r := by
  obtain ⟨s', h1, h2⟩ := forJ_nx I h0 h
  rw [h1, bindJ_nx]
  exact k s' h2
theorem if_f {α : Type} {x y r : α} (h : y = r) : (if false = true then x else y) = r := h
theorem F_3 : F 3 = (1, 2) := by decide +kernel
theorem natAbs_iabs (x : Int) : (iabs x).natAbs = x.natAbs := by unfold iabs; split <;> omega
theorem signs_ok {rs : List Rw} {ws : List Int} (hl : rs.length ≤ 5) (hw : ws.length = rs.length) (hb : ∀ w ∈ ws, w.natAbs ≤ 100) : ∃ ws' : List Int, forR (fun (k1 : Int) (weights1 : (List (Int × Int))) =>
  (((((((ixC rs k1)).bind fun u3 => Rs.ok u3.2.1).bind fun u4 => Rs.ok (decide (u4 = (PySem.Str.ofString "most")))).bind fun u5 => Rs.ok (bInt u5)).bind fun u6 => (ixC ([1, (-1)] : List Int) u6)).bind fun sign =>
  (((((((ixC weights1 k1)).bind fun u7 => Rs.ok u7.1).bind fun u8 => Rs.ok (iabs u8)).bind fun u9 => (mulC sign u9)).bind fun u11 => (((ixC weights1 k1)).bind fun u10 => Rs.ok u10.2).bind fun u12 => .ok (u11, u12)).bind fun u_ => (qu (Rs.ok k1)).bind fun z_ => (setC weights1 z_ u_).bind fun weights2 =>
  (Rs.ok weights2)))) (upto rs.length) (ws.map F) = .ok (ws'.map F) ∧ ws'.length = rs.length ∧ ∀ w ∈ ws', w.natAbs ≤ 100 := by
  obtain ⟨s, hs, ws', e, i1, i2⟩ := for_upto (n := rs.length) (f := fun (k1 : Int) (weights1 : (List (Int × Int))) =>
  (((((((ixC rs k1)).bind fun u3 => Rs.ok u3.2.1).bind fun u4 => Rs.ok (decide (u4 = (PySem.Str.ofString "most")))).bind fun u5 => Rs.ok (bInt u5)).bind fun u6 => (ixC ([1, (-1)] : List Int) u6)).bind fun sign =>
  (((((((ixC weights1 k1)).bind fun u7 => Rs.ok u7.1).bind fun u8 => Rs.ok (iabs u8)).bind fun u9 => (mulC sign u9)).bind fun u11 => (((ixC weights1 k1)).bind fun u10 => Rs.ok u10.2).bind fun u12 => .ok (u11, u12)).bind fun u_ => (qu (Rs.ok k1)).bind fun z_ => (setC weights1 z_ u_).bind fun weights2 =>
  (Rs.ok weights2)))) (fun _ s => ∃ ws' : List Int, s = ws'.map F ∧ ws'.length = rs.length ∧ ∀ w ∈ ws', w.natAbs ≤ 100) (s := ws.map F) ⟨ws, rfl, hw, hb⟩ (by
    intro k s hk ⟨ws', e, i1, i2⟩
    subst e
    have hkw : k < ws'.length := by omega
    have ew : (ws'.map F).getD k (0, 1) = F (ws'.getD k 0) := by simp [List.getElem?_eq_getElem hkw]
    have hwk := i2 _ (gD_mem (d := 0) hkw)
    rw [ix_k (([], sL, 0) : Rw) hk, ok_bind, ok_bind, ok_bind]
    obtain ⟨sg, hsg, hs1⟩ : ∃ sg, ixC ([1, (-1)] : List Int) (bInt (decide ((rs.getD k ([], sL, 0)).2.1 = PySem.Str.ofString "most"))) = .ok sg ∧ (sg = 1 ∨ sg = -1) := by
      cases decide ((rs.getD k ([], sL, 0)).2.1 = PySem.Str.ofString "most") with
      | false => exact ⟨1, rfl, .inl rfl⟩
      | true => exact ⟨-1, rfl, .inr rfl⟩
    rw [ok_bind, hsg, ok_bind, ix_k ((0 : Int), (1 : Int)) (by rw [List.length_map]; exact hkw), ok_bind, ok_bind, ok_bind, mul_l (by omega), ok_bind, ok_bind, ok_bind, ok_bind, qu_ok, ok_bind, set_ok (by omega) (by rw [List.length_map]; omega), ok_bind, ew]
    refine ⟨_, rfl, ws'.set k (sg * iabs (ws'.getD k 0)), ?_, by rw [List.length_set, i1], ?_⟩
    · rw [List.map_set]
      show (ws'.map F).set k _ = _
      congr 1
      have := F_abs (ws'.getD k 0)
      rcases hs1 with h | h <;> subst h
      · rw [Int.one_mul, Int.one_mul, this]
      · rw [Int.neg_mul, Int.neg_mul, Int.one_mul, Int.one_mul, F_neg, this]
    · intro w hw
      rcases List.mem_or_eq_of_mem_set hw with h | h
      · exact i2 w h
      · subst h
        rw [Int.natAbs_mul, natAbs_iabs]
        rcases hs1 with h | h <;> subst h <;> simpa using hwk)
  exact ⟨ws', by rw [hs, e], i1, i2⟩
theorem law_m (xs : List Int) (h : xs.length ≤ 63) : m_law T xs = Rs.ok true := by
  obtain ⟨ns, N, hn⟩ := numbers_ok h (many := 260) (by decide)
  replace hn : m_law_numbers xs 260 = .ok ns := hn
  obtain ⟨m, P, rs, hp, R, hP⟩ := program_ok N
  have hm := R.m6
  have hm1 := R.m1
  have hrl := R.rl
  unfold m_law
  rw [hn, ok_bind, hp, ok_bind]
  dsimp only
  rw [init_ok (m := m) T (by omega) (by omega) (by omega) (fun r hr => ⟨by rw [R.wl r hr, hP], R.rel r hr⟩), ok_bind]
  refine bJ_loop (fun pre s => pre = [] ∨ ∃ (fx : List (Option Int)) (ws : List Int), s = (some fx, some (ws.map F)) ∧ Fix m fx ∧ ws.length = rs.length) (.inl rfl) ?_ ?_
  · intro pre t suf s e _
    have ht : 0 ≤ t ∧ t < 6 := by
      have : t ∈ rngL 0 6 := by rw [e]; simp
      rw [show rngL 0 6 = upto 6 from rngL_upto] at this
      exact mem_upto.mp this
    obtain ⟨fx, hfx, fl, fo⟩ := lc_ex (n := m) (q := fun (j : Int) => (((((ixC ns ((100 + 8 * t) + j))).bind fun u => Rs.ok u).bind fun u1 => Rs.ok (u1 % 4)).bind fun u2 => (ixC ([(some 0), (some 1), none, none] : List (Option Int)) u2))) (fun o => o = none ∨ o = some 0 ∨ o = some 1) (by omega) (by
      intro j h0 h1
      obtain ⟨u, e1, _, _⟩ := N.at_ (i := 100 + 8 * t + j) (by omega) (by omega)
      rw [e1, ok_bind, ok_bind, ok_bind]
      have : u % 4 = 0 ∨ u % 4 = 1 ∨ u % 4 = 2 ∨ u % 4 = 3 := by omega
      rcases this with h | h | h | h <;> rw [h]
      · exact ⟨_, rfl, .inr (.inl rfl)⟩
      · exact ⟨_, rfl, .inr (.inr rfl)⟩
      · exact ⟨_, rfl, .inl rfl⟩
      · exact ⟨_, rfl, .inl rfl⟩)
    have f : Fix m fx := ⟨fl, fo⟩
    obtain ⟨vs, hvs, vl, vo⟩ := lc_ex (n := rs.length) (q := fun (k : Int) => m_law_some ns 160 (3 * t + k)) (fun v => ∃ w : Int, v = F w ∧ w.natAbs ≤ 100) (by omega) (by
      intro k _ _
      obtain ⟨w, h1, h2⟩ := some_ok N (3 * t + k)
      exact ⟨_, h1, w, rfl, h2⟩)
    obtain ⟨ws0, ev, hb0⟩ := list_F vs vo
    subst ev
    rw [List.length_map] at vl
    obtain ⟨ws1, h1, hl1, hb1⟩ := signs_ok hrl vl hb0
    obtain ⟨ws, hws, hwl, hwb⟩ : ∃ ws : List Int, (if decide (t % 3 > 0) = true then Rs.ok (ws1.map F) else Rs.ok (ws0.map F)) = Rs.ok (ws.map F) ∧ ws.length = rs.length ∧ ∀ w ∈ ws, w.natAbs ≤ 100 := by
      cases decide (t % 3 > 0) with
      | false => exact ⟨ws0, rfl, vl, hb0⟩
      | true => exact ⟨ws1, rfl, hl1, hb1⟩
    obtain ⟨told, htd, tl, tb⟩ := lc_ex (n := m) (q := fun (j1 : Int) => ((((ixC ns ((200 + t) + j1))).bind fun u13 => Rs.ok u13).bind fun u14 => Rs.ok (u14 % 2))) (fun x => x.natAbs ≤ 1) (by omega) (by
      intro j h0 h1
      obtain ⟨u, e1, _, _⟩ := N.at_ (i := 200 + t + j) (by omega) (by omega)
      exact ⟨_, by rw [e1, ok_bind, ok_bind], by omega⟩)
    obtain ⟨v, hv, _, _⟩ := N.at_ (i := 220 + t) (by omega) (by omega)
    obtain ⟨sr, hsr⟩ := repr_ok hm f (by omega) hwb (by omega) tb
    have hlong : (ws.map F) ++ [((1 : Int), (2 : Int))] = (ws ++ [3]).map F := by rw [List.map_append, List.map_cons, F_3]; rfl
    have hfl : fitB rs (ws ++ [3]) = false := by
      unfold fitB
      rw [decide_eq_false (by simp; omega)]
      rfl
    refine ⟨(some fx, some (ws.map F)), ?_, .inr ⟨fx, ws, rfl, f, hwl⟩⟩
    have lr : lenI rs = ((rs.length : Nat) : Int) := rfl
    refine bind_to (a := 100 + 8 * t) rfl ?_
    refine bind_to (a := fx) (by rw [rng_up (by omega), ok_bind]; exact hfx) ?_
    refine bind_to (a := ws0.map F) (by rw [lr, rng_up (by omega), ok_bind]; exact hvs) ?_
    refine bind_to (a := ws.map F) (by rw [lr, rng_up (by omega), ok_bind, h1]; exact hws) ?_
    refine bind_to (a := told) (by rw [rng_up (by omega), ok_bind]; exact htd) ?_
    refine bind_to (a := v % 15 - 5) (by rw [hv]; rfl) ?_
    refine bind_to (a := sr) hsr ?_
    refine bind_to (a := false) (by rw [case_ok T R hP f hwl, ok_bind, lbound_ok R hP fl hwl, ok_bind, decide_eq_true rfl]; rfl) ?_
    refine if_f ?_
    refine bind_to (a := false) (by rw [shows_ok T R hP f, ok_bind, lshows_ok R hP f, ok_bind, decide_eq_true rfl]; rfl) ?_
    refine if_f ?_
    refine bind_to (a := false) (by rw [closes_ok T R hP f, ok_bind, lcloses_ok R hP f, ok_bind, decide_eq_true rfl]; rfl) ?_
    refine if_f ?_
    refine bind_to (a := (ws ++ [3]).map F) (by rw [cat_ok (by rw [List.length_map]; simp; omega), hlong]) ?_
    refine bind_to (a := false) (by
      rw [shows_ok T R hP f, ok_bind, closes_ok T R hP f]
      unfold showsB closesB
      rw [hfl]
      rfl) ?_
    refine if_f ?_
    refine bind_to (a := false) (by
      rw [hsr, ok_bind, decide_eq_true rfl, ltrue_ok R hP f]
      rfl) ?_
    exact if_f rfl
  · intro s hs
    rcases hs with hs | ⟨fx, ws, e, f, hw⟩
    · exact absurd (congrArg List.length hs) (by decide)
    · subst e
      show m_law_refusals T _ _ _ _ = _
      exact refusals_ok T N R hP f hw
end Q

set_option Elab.async false
set_option linter.all false
set_option maxRecDepth 100000
set_option maxHeartbeats 4000000
namespace Q
open PySem PySem.Spec PyProof.Rows L2 Z R
def spLaw (K : PySem.W.Frag) : Sp := SpA (α := List Int) (fun xs => xs.length ≤ 63) (fun xs => [pu (scR K xs)]) (fun _ => .ok (dB true))
section
variable {P : Program} {w : World} {K : PySem.W.Frag} {mg : Str → Option Value} {base : Heap}
theorem law_true (T : Tx K mg) (xs : List Int) (h : xs.length ≤ 63) : runX (xs_law T) false 16 [.v (.s xs)] = .ok (.d (.bool true)) := by
  have := r_law T xs
  rw [law_m T xs h] at this
  have this : (fn_law T).f [.v (Vl.s xs)] = .ok (eB.v true) := this
  rw [fnf_law] at this
  exact this
theorem ok_law (T : Tx K mg) : RunAt P w K mg base (L2.CX P w) 10 T.f_law T.fd_law ["script"] (spLaw K) := by
  refine fun_at T.F_law sc_law (SpA.len fun _ => rfl) (fun cdv s H vs Q E hr hgd h => ⟨_, (pss_cons (ps_set (i := 1) sc_law.nd rfl (by first | exact Or.inl rfl | exact Or.inr rfl) (pe_call (ok_law_numbers T) (hr.mono (by decide)) (by rfl) T.g_law_numbers T.F_law_numbers.kp T.b_law_numbers .nil (passes_call (takes_of rfl rfl rfl rfl) fun _ _ _ _ z => z) (pa_cons (pv 0) (pa_cons pe_int pa_nil))))
      (pss_cons (ps_asg (pe_call (ok_law_program T) (hr.mono (by decide)) (by rfl) T.g_law_program T.F_law_program.kp T.b_law_program .nil (passes_call (takes_of rfl rfl rfl rfl) fun _ _ _ _ z => z) (pa_cons (pv 1) (pa_cons pe_int (pa_cons pe_int (pa_cons pe_int pa_nil))))) (kpg_tup K (n := 3) rfl (pgs_cons (pg_name (i := 2) sc_law.nd rfl (by first | exact Or.inl rfl | exact Or.inr rfl)) (pgs_cons (pg_name (i := 3) sc_law.nd rfl (by first | exact Or.inl rfl | exact Or.inr rfl)) (pgs_cons (pg_name (i := 4) sc_law.nd rfl (by first | exact Or.inl rfl | exact Or.inr rfl)) pgs_nil)))))
      (pss_cons (ps_set (i := 5) sc_law.nd rfl (by first | exact Or.inl rfl | exact Or.inr rfl) (pe_make T.mk_Program (ok_Program___init__ T) (hr.mono (by decide)) (by rfl) T.g_Program T.b_Program___init__ .nil (passes_call (takes_of rfl rfl rfl rfl) fun _ _ _ _ z => z) (pa_cons (pv 3) (pa_cons (pv 4) pa_nil))))
      (pss_cons (ps_for (passes_of rfl) rfl (pi_range1 (by rfl) T.z_range (pa_cons pe_int pa_nil)) (pg_name (i := 6) sc_law.nd rfl (by first | exact Or.inl rfl | exact Or.inr rfl))
        (pss_cons (ps_set (i := 7) sc_law.nd rfl (by first | exact Or.inl rfl | exact Or.inr rfl) (pe_op op_add pe_int (pe_op op_mulU pe_int (pv 6))))
      (pss_cons (ps_setLc (i := 8) (own := [("j", 16)]) (g := (gName 16)) rfl sc_law.nd rfl rfl (sw_true rfl rfl rfl (by decide +kernel)) (pi_range1 (by rfl) T.z_range (pa_cons (pv 2) pa_nil)) (blkOk_by (N := N_law) (sc := defScope s_law) (by decide +kernel)) (fun _ _ _ _ _ => (pg_name (i := 16) sc_law.nd rfl (by first | exact Or.inl rfl | exact Or.inr rfl))) (fun _ _ _ _ _ => pts_nil) (fun _ _ _ _ _ => (pe_ix (kix_list K) (pe_lst (pa_cons pe_int (pa_cons pe_int (pa_cons pe_non (pa_cons pe_non pa_nil))))) (pe_op op_mod (pe_callTy call_int1 (by rfl) T.z_int (by decide +kernel) (pa_cons (pe_ix (kix_list K) (pv 1) (pe_op op_add (pv 7) (pv 16)) (fun _ _ => rfl)) pa_nil)) pe_int) (fun _ _ => rfl))))
      (pss_cons (ps_setLc (i := 10) (own := [("k", 9)]) (g := (gName 9)) rfl sc_law.nd rfl rfl (sw_true rfl rfl rfl (by decide +kernel)) (pi_range1 (by rfl) T.z_range (pa_cons (pe_callB (kcall_len K) (by rfl) T.z_len PySem.boot_len (pa_cons (pv 4) pa_nil)) pa_nil)) (blkOk_by (N := N_law) (sc := defScope s_law) (by decide +kernel)) (fun _ _ _ _ _ => (pg_name (i := 9) sc_law.nd rfl (by first | exact Or.inl rfl | exact Or.inr rfl))) (fun _ _ _ _ _ => pts_nil) (fun _ _ _ _ _ => (pe_call (ok_law_some T) (hr.mono (by decide)) (by rfl) T.g_law_some T.F_law_some.kp T.b_law_some .nil pass_no (pa_cons (pv 1) (pa_cons pe_int (pa_cons (pe_op op_add (pe_op op_mulU pe_int (pv 6)) (pv 9)) pa_nil))))))
      (pss_cons (ps_if (pt_cmpR op_gt (pe_op op_mod (pv 6) pe_int) pe_int (nomark _))
        (pss_one (ps_for (passes_of rfl) rfl (pi_range1 (by rfl) T.z_range (pa_cons (pe_callB (kcall_len K) (by rfl) T.z_len PySem.boot_len (pa_cons (pv 4) pa_nil)) pa_nil)) (pg_name (i := 9) sc_law.nd rfl (by first | exact Or.inl rfl | exact Or.inr rfl))
        (pss_cons (ps_set (i := 11) sc_law.nd rfl (by first | exact Or.inl rfl | exact Or.inr rfl) (pe_ix (kix_list K) (pe_lst (pa_cons pe_int (pa_cons (pe_un un_neg pe_int) pa_nil))) (pe_callTy call_int1 (by rfl) T.z_int (by decide +kernel) (pa_cons (pe_cmpR op_eq (pe_ix (kix_tup K) (pe_ix (kix_list K) (pv 4) (pv 9) (fun _ _ => rfl)) pe_int (fun _ _ => rfl)) pe_str (nomark _)) pa_nil)) (fun _ _ => rfl)))
      (pss_one (ps_asg (pe_tup (pa_cons (pe_op op_mulU (pv 11) (pe_callB call_abs (by rfl) T.z_abs (by decide +kernel) (pa_cons (pe_ix (kix_tup K) (pe_ix (kix_list K) (pv 10) (pv 9) (fun _ _ => rfl)) pe_int (fun _ _ => rfl)) pa_nil))) (pa_cons (pe_ix (kix_tup K) (pe_ix (kix_list K) (pv 10) (pv 9) (fun _ _ => rfl)) pe_int (fun _ _ => rfl)) pa_nil))) (pg_sub (pv 10) (pv 9) set_list))))))
        pss_nil)
      (pss_cons (ps_setLc (i := 12) (own := [("j", 16)]) (g := (gName 16)) rfl sc_law.nd rfl rfl (sw_true rfl rfl rfl (by decide +kernel)) (pi_range1 (by rfl) T.z_range (pa_cons (pv 2) pa_nil)) (blkOk_by (N := N_law) (sc := defScope s_law) (by decide +kernel)) (fun _ _ _ _ _ => (pg_name (i := 16) sc_law.nd rfl (by first | exact Or.inl rfl | exact Or.inr rfl))) (fun _ _ _ _ _ => pts_nil) (fun _ _ _ _ _ => (pe_op op_mod (pe_callTy call_int1 (by rfl) T.z_int (by decide +kernel) (pa_cons (pe_ix (kix_list K) (pv 1) (pe_op op_add (pe_op op_add pe_int (pv 6)) (pv 16)) (fun _ _ => rfl)) pa_nil)) pe_int)))
      (pss_cons (ps_set (i := 13) sc_law.nd rfl (by first | exact Or.inl rfl | exact Or.inr rfl) (pe_op op_sub (pe_op op_mod (pe_callTy call_int1 (by rfl) T.z_int (by decide +kernel) (pa_cons (pe_ix (kix_list K) (pv 1) (pe_op op_add pe_int (pv 6)) (fun _ _ => rfl)) pa_nil)) pe_int) pe_int))
      (pss_cons (ps_set (i := 14) sc_law.nd rfl (by first | exact Or.inl rfl | exact Or.inr rfl) (pe_callB (call_repr hgd (Z.room70 hr)) (by rfl) T.z_repr (by decide +kernel) (pa_cons (pe_tup (pa_cons (pv 8) (pa_cons (pv 10) (pa_cons (pv 12) pa_nil)))) pa_nil)))
      (pss_cons (ps_if (pt_cmpR (kop_neD K (Z.room64 hr)) (pe_call (ok_case_bound T) (hr.mono (by decide)) (by rfl) T.g_case_bound T.F_case_bound.kp T.b_case_bound .nil (passes_call (takes_of rfl rfl rfl rfl) fun _ _ _ _ z => z) (pa_cons (pv 5) (pa_cons (pv 8) (pa_cons (pv 10) pa_nil)))) (pe_call (ok_law_bound T) (hr.mono (by decide)) (by rfl) T.g_law_bound T.F_law_bound.kp T.b_law_bound .nil (passes_call (takes_of rfl rfl rfl rfl) fun _ _ _ _ z => z) (pa_cons (pv 3) (pa_cons (pv 4) (pa_cons (pv 8) (pa_cons (pv 10) pa_nil))))) (nomark _))
        (pss_one (ps_ret pe_bl))
        pss_nil)
      (pss_cons (ps_if (pt_cmpR (kop_neD K (Z.room64 hr)) (pe_call (ok_shows_none T) (hr.mono (by decide)) (by rfl) T.g_shows_none T.F_shows_none.kp T.b_shows_none .nil (passes_call (takes_of rfl rfl rfl rfl) fun _ _ _ _ z => z) (pa_cons (pv 5) (pa_cons (pv 8) (pa_cons (pv 10) pa_nil)))) (pe_call (ok_law_shows_none T) (hr.mono (by decide)) (by rfl) T.g_law_shows_none T.F_law_shows_none.kp T.b_law_shows_none .nil (passes_call (takes_of rfl rfl rfl rfl) fun _ _ _ _ z => z) (pa_cons (pv 3) (pa_cons (pv 4) (pa_cons (pv 8) (pa_cons (pv 10) pa_nil))))) (nomark _))
        (pss_one (ps_ret pe_bl))
        pss_nil)
      (pss_cons (ps_if (pt_cmpR (kop_neD K (Z.room64 hr)) (pe_call (ok_closes T) (hr.mono (by decide)) (by rfl) T.g_closes T.F_closes.kp T.b_closes .nil (passes_call (takes_of rfl rfl rfl rfl) fun _ _ _ _ z => z) (pa_cons (pv 5) (pa_cons (pv 8) (pa_cons (pv 10) (pa_cons (pv 13) (pa_cons (pv 12) pa_nil)))))) (pe_call (ok_law_closes T) (hr.mono (by decide)) (by rfl) T.g_law_closes T.F_law_closes.kp T.b_law_closes .nil (passes_call (takes_of rfl rfl rfl rfl) fun _ _ _ _ z => z) (pa_cons (pv 3) (pa_cons (pv 4) (pa_cons (pv 8) (pa_cons (pv 10) (pa_cons (pv 13) (pa_cons (pv 12) pa_nil))))))) (nomark _))
        (pss_one (ps_ret pe_bl))
        pss_nil)
      (pss_cons (ps_set (i := 15) sc_law.nd rfl (by first | exact Or.inl rfl | exact Or.inr rfl) (pe_op op_cat (pv 10) (pe_lst (pa_cons (pe_tup (pa_cons pe_int (pa_cons pe_int pa_nil))) pa_nil))))
      (pss_cons (ps_if (PW.pt (pw_or (pt_cmpR op_notBl (pe_call (ok_shows_none T) (hr.mono (by decide)) (by rfl) T.g_shows_none T.F_shows_none.kp T.b_shows_none .nil (passes_call (takes_of rfl rfl rfl rfl) fun _ _ _ _ z => z) (pa_cons (pv 5) (pa_cons (pv 8) (pa_cons (pv 15) pa_nil)))) pe_bl (nomark _)) (pw_or1 (pt_cmpR op_notBl (pe_call (ok_closes T) (hr.mono (by decide)) (by rfl) T.g_closes T.F_closes.kp T.b_closes .nil (passes_call (takes_of rfl rfl rfl rfl) fun _ _ _ _ z => z) (pa_cons (pv 5) (pa_cons (pv 8) (pa_cons (pv 15) (pa_cons (pv 13) (pa_cons (pv 12) pa_nil)))))) pe_bl (nomark _)))))
        (pss_one (ps_ret pe_bl))
        pss_nil)
      (pss_one (ps_if (PW.pt (pw_or (pt_cmpR op_ne (pe_callB (call_repr hgd (Z.room70 hr)) (by rfl) T.z_repr (by decide +kernel) (pa_cons (pe_tup (pa_cons (pv 8) (pa_cons (pv 10) (pa_cons (pv 12) pa_nil)))) pa_nil)) (pv 14) (nomark _)) (pw_or1 (pt_not (pt_val (pe_call (ok_law_true T) (hr.mono (by decide)) (by rfl) T.g_law_true T.F_law_true.kp T.b_law_true .nil (passes_call (takes_of rfl rfl rfl rfl) fun _ _ _ _ z => z) (pa_cons (pv 4) (pa_cons (pv 3) (pa_cons (pv 8) (pa_cons (pv 10) (pa_cons (pv 13) (pa_cons (pv 12) pa_nil))))))))))))
        (pss_one (ps_ret pe_bl))
        pss_nil)))))))))))))))
      (pss_one (ps_ret (pe_call (ok_law_refusals T) (hr.mono (by decide)) (by rfl) T.g_law_refusals T.F_law_refusals.kp T.b_law_refusals .nil (passes_call (takes_of rfl rfl rfl rfl) fun _ _ _ _ z => z) (pa_cons (pe_slice (ksl_list K) (pv 1) (po_some pe_int) (po_some pe_int)) (pa_cons (pv 5) (pa_cons (pv 8) (pa_cons (pv 10) pa_nil))))))))))), ?_⟩)
  exact R.law_run (xs_law T) N_law h (law_true T)
end
theorem all_mk {P : Program} {w : World} {K : PySem.W.Frag} {h : Heap} {mg : Str → Option Value} {fa : Addr} (X : K.In h) (G : h.Ns mainGlobals mg) (hfa : mg "law" = some (.ref fa))
    {c_Program c_WebError c_OutOfRange c_TooMany c_ZeroDivisor c_BadRelation c_WrongSize c_BadFixing f_WebError___init__ f_fraction f_minus f_ceiling f_scaled f_added f_Program___init__ f_Program_count f_Program_prices f_Program_rows f_dot f_is_fit f_are_fit f_scaled_for f_loads f_gain f_need_few f_need_fixing f_bound_with f_case_bound f_shows_none f_first_under f_closes f_law_numbers f_law_lowest f_law_plus f_law_added f_law_weighted f_law_program f_law_good f_law_lists f_law_worth f_law_fit f_law_bound f_law_shows_none f_law_closes f_law_some f_law_refused f_law_refusals f_law_true f_law : Addr}
    {od_WebError___init__ an_WebError___init__ od_fraction an_fraction od_minus an_minus od_ceiling an_ceiling od_scaled an_scaled od_added an_added od_Program___init__ an_Program___init__ od_Program_count an_Program_count od_Program_prices an_Program_prices od_Program_rows an_Program_rows od_dot an_dot od_is_fit an_is_fit od_are_fit an_are_fit od_scaled_for an_scaled_for od_loads an_loads od_gain an_gain od_need_few an_need_few od_need_fixing an_need_fixing od_bound_with an_bound_with od_case_bound an_case_bound od_shows_none an_shows_none od_first_under an_first_under od_closes an_closes od_law_numbers an_law_numbers od_law_lowest an_law_lowest od_law_plus an_law_plus od_law_added an_law_added od_law_weighted an_law_weighted od_law_program an_law_program od_law_good an_law_good od_law_lists an_law_lists od_law_worth an_law_worth od_law_fit an_law_fit od_law_bound an_law_bound od_law_shows_none an_law_shows_none od_law_closes an_law_closes od_law_some an_law_some od_law_refused an_law_refused od_law_refusals an_law_refusals od_law_true an_law_true od_law an_law : Option Addr} {sl_WebError___init__ sl_fraction sl_minus sl_ceiling sl_scaled sl_added sl_Program___init__ sl_Program_count sl_Program_prices sl_Program_rows sl_dot sl_is_fit sl_are_fit sl_scaled_for sl_loads sl_gain sl_need_few sl_need_fixing sl_bound_with sl_case_bound sl_shows_none sl_first_under sl_closes sl_law_numbers sl_law_lowest sl_law_plus sl_law_added sl_law_weighted sl_law_program sl_law_good sl_law_lists sl_law_worth sl_law_fit sl_law_bound sl_law_shows_none sl_law_closes sl_law_some sl_law_refused sl_law_refusals sl_law_true sl_law : Array (Option Value)} {oc_WebError___init__ kV_WebError___init__ dc_WebError___init__ pm_WebError___init__ cd_WebError___init__ ct_WebError___init__ oc_fraction kV_fraction dc_fraction pm_fraction cd_fraction ct_fraction oc_minus kV_minus dc_minus pm_minus cd_minus ct_minus oc_ceiling kV_ceiling dc_ceiling pm_ceiling cd_ceiling ct_ceiling oc_scaled kV_scaled dc_scaled pm_scaled cd_scaled ct_scaled oc_added kV_added dc_added pm_added cd_added ct_added oc_Program___init__ kV_Program___init__ dc_Program___init__ pm_Program___init__ cd_Program___init__ ct_Program___init__ oc_Program_count kV_Program_count dc_Program_count pm_Program_count cd_Program_count ct_Program_count oc_Program_prices kV_Program_prices dc_Program_prices pm_Program_prices cd_Program_prices ct_Program_prices oc_Program_rows kV_Program_rows dc_Program_rows pm_Program_rows cd_Program_rows ct_Program_rows oc_dot kV_dot dc_dot pm_dot cd_dot ct_dot oc_is_fit kV_is_fit dc_is_fit pm_is_fit cd_is_fit ct_is_fit oc_are_fit kV_are_fit dc_are_fit pm_are_fit cd_are_fit ct_are_fit oc_scaled_for kV_scaled_for dc_scaled_for pm_scaled_for cd_scaled_for ct_scaled_for oc_loads kV_loads dc_loads pm_loads cd_loads ct_loads oc_gain kV_gain dc_gain pm_gain cd_gain ct_gain oc_need_few kV_need_few dc_need_few pm_need_few cd_need_few ct_need_few oc_need_fixing kV_need_fixing dc_need_fixing pm_need_fixing cd_need_fixing ct_need_fixing oc_bound_with kV_bound_with dc_bound_with pm_bound_with cd_bound_with ct_bound_with oc_case_bound kV_case_bound dc_case_bound pm_case_bound cd_case_bound ct_case_bound oc_shows_none kV_shows_none dc_shows_none pm_shows_none cd_shows_none ct_shows_none oc_first_under kV_first_under dc_first_under pm_first_under cd_first_under ct_first_under oc_closes kV_closes dc_closes pm_closes cd_closes ct_closes oc_law_numbers kV_law_numbers dc_law_numbers pm_law_numbers cd_law_numbers ct_law_numbers oc_law_lowest kV_law_lowest dc_law_lowest pm_law_lowest cd_law_lowest ct_law_lowest oc_law_plus kV_law_plus dc_law_plus pm_law_plus cd_law_plus ct_law_plus oc_law_added kV_law_added dc_law_added pm_law_added cd_law_added ct_law_added oc_law_weighted kV_law_weighted dc_law_weighted pm_law_weighted cd_law_weighted ct_law_weighted oc_law_program kV_law_program dc_law_program pm_law_program cd_law_program ct_law_program oc_law_good kV_law_good dc_law_good pm_law_good cd_law_good ct_law_good oc_law_lists kV_law_lists dc_law_lists pm_law_lists cd_law_lists ct_law_lists oc_law_worth kV_law_worth dc_law_worth pm_law_worth cd_law_worth ct_law_worth oc_law_fit kV_law_fit dc_law_fit pm_law_fit cd_law_fit ct_law_fit oc_law_bound kV_law_bound dc_law_bound pm_law_bound cd_law_bound ct_law_bound oc_law_shows_none kV_law_shows_none dc_law_shows_none pm_law_shows_none cd_law_shows_none ct_law_shows_none oc_law_closes kV_law_closes dc_law_closes pm_law_closes cd_law_closes ct_law_closes oc_law_some kV_law_some dc_law_some pm_law_some cd_law_some ct_law_some oc_law_refused kV_law_refused dc_law_refused pm_law_refused cd_law_refused ct_law_refused oc_law_refusals kV_law_refusals dc_law_refusals pm_law_refusals cd_law_refusals ct_law_refusals oc_law_true kV_law_true dc_law_true pm_law_true cd_law_true ct_law_true oc_law kV_law dc_law pm_law cd_law ct_law : Value}
    {nm_WebError qn_WebError nm_OutOfRange qn_OutOfRange nm_TooMany qn_TooMany nm_ZeroDivisor qn_ZeroDivisor nm_BadRelation qn_BadRelation nm_WrongSize qn_WrongSize nm_BadFixing qn_BadFixing : Str} {N_WebError N_OutOfRange N_TooMany N_ZeroDivisor N_BadRelation N_WrongSize N_BadFixing : Addr} {bs_WebError bm_WebError sub_WebError bs_OutOfRange bm_OutOfRange sub_OutOfRange bs_TooMany bm_TooMany sub_TooMany bs_ZeroDivisor bm_ZeroDivisor sub_ZeroDivisor bs_BadRelation bm_BadRelation sub_BadRelation bs_WrongSize bm_WrongSize sub_WrongSize bs_BadFixing bm_BadFixing sub_BadFixing : List Value} {st_WebError st_OutOfRange st_TooMany st_ZeroDivisor st_BadRelation st_WrongSize st_BadFixing : List Str} {ab_WebError ab_OutOfRange ab_TooMany ab_ZeroDivisor ab_BadRelation ab_WrongSize ab_BadFixing : Bool} {col_WebError col_OutOfRange col_TooMany col_ZeroDivisor col_BadRelation col_WrongSize col_BadFixing : Option Bool} {dd_WebError dd_OutOfRange dd_TooMany dd_ZeroDivisor dd_BadRelation dd_WrongSize dd_BadFixing : Option Addr} {m0_WebError m1_WebError m2_WebError m3_WebError m5_WebError m0_OutOfRange m1_OutOfRange m2_OutOfRange m3_OutOfRange m5_OutOfRange m0_TooMany m1_TooMany m2_TooMany m3_TooMany m5_TooMany m0_ZeroDivisor m1_ZeroDivisor m2_ZeroDivisor m3_ZeroDivisor m5_ZeroDivisor m0_BadRelation m1_BadRelation m2_BadRelation m3_BadRelation m5_BadRelation m0_WrongSize m1_WrongSize m2_WrongSize m3_WrongSize m5_WrongSize m0_BadFixing m1_BadFixing m2_BadFixing m3_BadFixing m5_BadFixing : Option Value}
    {t_MOST_VARIABLES_program t_MOST_ROWS t_MOST_VARIABLES_bounds : Tok} {c_RELATIONS : Addr} {oc_RELATIONS : Value} {od_RELATIONS : Option Addr} {it_RELATIONS : Array Value} {sn_RELATIONS : Nat} {sl_RELATIONS : Array (Option Value)} 
    (aC_Program : PySem.W.nsIn K mainGlobals "Program" = some (some (.ref c_Program)))
    (aC_WebError : PySem.W.nsIn K mainGlobals "WebError" = some (some (.ref c_WebError)))
    (aC_OutOfRange : PySem.W.nsIn K mainGlobals "OutOfRange" = some (some (.ref c_OutOfRange)))
    (aC_TooMany : PySem.W.nsIn K mainGlobals "TooMany" = some (some (.ref c_TooMany)))
    (aC_ZeroDivisor : PySem.W.nsIn K mainGlobals "ZeroDivisor" = some (some (.ref c_ZeroDivisor)))
    (aC_BadRelation : PySem.W.nsIn K mainGlobals "BadRelation" = some (some (.ref c_BadRelation)))
    (aC_WrongSize : PySem.W.nsIn K mainGlobals "WrongSize" = some (some (.ref c_WrongSize)))
    (aC_BadFixing : PySem.W.nsIn K mainGlobals "BadFixing" = some (some (.ref c_BadFixing)))
    (a_WebError___init__ : PySem.W.findIn K (.ref c_WebError) "__init__" = some (some (.ref f_WebError___init__)))
    (ty_WebError___init__ : PySem.W.typeIn K (.ref f_WebError___init__) = some (.type "function"))
    (l_WebError___init__ : K.lookup f_WebError___init__ = some ⟨oc_WebError___init__, od_WebError___init__, .func (PySem.W.fnOf "__init__" "WebError.__init__" (defArgs s_WebError___init__) (defBody s_WebError___init__) (defScope s_WebError___init__) .none kV_WebError___init__ dc_WebError___init__ pm_WebError___init__ an_WebError___init__ cd_WebError___init__ ct_WebError___init__), sl_WebError___init__⟩)
    (cdw_WebError___init__ : PySem.W.codeIn K cd_WebError___init__ "WebError.__init__" = true)
    (kp_WebError___init__ : PySem.W.keepIn K (.ref f_WebError___init__) = true)
    (a_fraction : PySem.W.nsIn K mainGlobals "fraction" = some (some (.ref f_fraction)))
    (l_fraction : K.lookup f_fraction = some ⟨oc_fraction, od_fraction, .func (PySem.W.fnOf "fraction" "fraction" (defArgs s_fraction) (defBody s_fraction) (defScope s_fraction) .none kV_fraction dc_fraction pm_fraction an_fraction cd_fraction ct_fraction), sl_fraction⟩)
    (cdw_fraction : PySem.W.codeIn K cd_fraction "fraction" = true)
    (kp_fraction : PySem.W.keepIn K (.ref f_fraction) = true)
    (a_minus : PySem.W.nsIn K mainGlobals "minus" = some (some (.ref f_minus)))
    (l_minus : K.lookup f_minus = some ⟨oc_minus, od_minus, .func (PySem.W.fnOf "minus" "minus" (defArgs s_minus) (defBody s_minus) (defScope s_minus) .none kV_minus dc_minus pm_minus an_minus cd_minus ct_minus), sl_minus⟩)
    (cdw_minus : PySem.W.codeIn K cd_minus "minus" = true)
    (kp_minus : PySem.W.keepIn K (.ref f_minus) = true)
    (a_ceiling : PySem.W.nsIn K mainGlobals "ceiling" = some (some (.ref f_ceiling)))
    (l_ceiling : K.lookup f_ceiling = some ⟨oc_ceiling, od_ceiling, .func (PySem.W.fnOf "ceiling" "ceiling" (defArgs s_ceiling) (defBody s_ceiling) (defScope s_ceiling) .none kV_ceiling dc_ceiling pm_ceiling an_ceiling cd_ceiling ct_ceiling), sl_ceiling⟩)
    (cdw_ceiling : PySem.W.codeIn K cd_ceiling "ceiling" = true)
    (kp_ceiling : PySem.W.keepIn K (.ref f_ceiling) = true)
    (a_scaled : PySem.W.nsIn K mainGlobals "scaled" = some (some (.ref f_scaled)))
    (l_scaled : K.lookup f_scaled = some ⟨oc_scaled, od_scaled, .func (PySem.W.fnOf "scaled" "scaled" (defArgs s_scaled) (defBody s_scaled) (defScope s_scaled) .none kV_scaled dc_scaled pm_scaled an_scaled cd_scaled ct_scaled), sl_scaled⟩)
    (cdw_scaled : PySem.W.codeIn K cd_scaled "scaled" = true)
    (kp_scaled : PySem.W.keepIn K (.ref f_scaled) = true)
    (a_added : PySem.W.nsIn K mainGlobals "added" = some (some (.ref f_added)))
    (l_added : K.lookup f_added = some ⟨oc_added, od_added, .func (PySem.W.fnOf "added" "added" (defArgs s_added) (defBody s_added) (defScope s_added) .none kV_added dc_added pm_added an_added cd_added ct_added), sl_added⟩)
    (cdw_added : PySem.W.codeIn K cd_added "added" = true)
    (kp_added : PySem.W.keepIn K (.ref f_added) = true)
    (a_Program___init__ : PySem.W.findIn K (.ref c_Program) "__init__" = some (some (.ref f_Program___init__)))
    (i_Program___init__ : PySem.W.isFn K (.ref f_Program___init__) = true)
    (l_Program___init__ : K.lookup f_Program___init__ = some ⟨oc_Program___init__, od_Program___init__, .func (PySem.W.fnOf "__init__" "Program.__init__" (defArgs s_Program___init__) (defBody s_Program___init__) (defScope s_Program___init__) .none kV_Program___init__ dc_Program___init__ pm_Program___init__ an_Program___init__ cd_Program___init__ ct_Program___init__), sl_Program___init__⟩)
    (cdw_Program___init__ : PySem.W.codeIn K cd_Program___init__ "Program.__init__" = true)
    (kp_Program___init__ : PySem.W.keepIn K (.ref f_Program___init__) = true)
    (a_Program_count : PySem.W.findIn K (.ref c_Program) "count" = some (some (.ref f_Program_count)))
    (i_Program_count : PySem.W.isFn K (.ref f_Program_count) = true)
    (l_Program_count : K.lookup f_Program_count = some ⟨oc_Program_count, od_Program_count, .func (PySem.W.fnOf "count" "Program.count" (defArgs s_Program_count) (defBody s_Program_count) (defScope s_Program_count) .none kV_Program_count dc_Program_count pm_Program_count an_Program_count cd_Program_count ct_Program_count), sl_Program_count⟩)
    (cdw_Program_count : PySem.W.codeIn K cd_Program_count "Program.count" = true)
    (kp_Program_count : PySem.W.keepIn K (.ref f_Program_count) = true)
    (a_Program_prices : PySem.W.findIn K (.ref c_Program) "prices" = some (some (.ref f_Program_prices)))
    (i_Program_prices : PySem.W.isFn K (.ref f_Program_prices) = true)
    (l_Program_prices : K.lookup f_Program_prices = some ⟨oc_Program_prices, od_Program_prices, .func (PySem.W.fnOf "prices" "Program.prices" (defArgs s_Program_prices) (defBody s_Program_prices) (defScope s_Program_prices) .none kV_Program_prices dc_Program_prices pm_Program_prices an_Program_prices cd_Program_prices ct_Program_prices), sl_Program_prices⟩)
    (cdw_Program_prices : PySem.W.codeIn K cd_Program_prices "Program.prices" = true)
    (kp_Program_prices : PySem.W.keepIn K (.ref f_Program_prices) = true)
    (a_Program_rows : PySem.W.findIn K (.ref c_Program) "rows" = some (some (.ref f_Program_rows)))
    (i_Program_rows : PySem.W.isFn K (.ref f_Program_rows) = true)
    (l_Program_rows : K.lookup f_Program_rows = some ⟨oc_Program_rows, od_Program_rows, .func (PySem.W.fnOf "rows" "Program.rows" (defArgs s_Program_rows) (defBody s_Program_rows) (defScope s_Program_rows) .none kV_Program_rows dc_Program_rows pm_Program_rows an_Program_rows cd_Program_rows ct_Program_rows), sl_Program_rows⟩)
    (cdw_Program_rows : PySem.W.codeIn K cd_Program_rows "Program.rows" = true)
    (kp_Program_rows : PySem.W.keepIn K (.ref f_Program_rows) = true)
    (a_dot : PySem.W.nsIn K mainGlobals "dot" = some (some (.ref f_dot)))
    (l_dot : K.lookup f_dot = some ⟨oc_dot, od_dot, .func (PySem.W.fnOf "dot" "dot" (defArgs s_dot) (defBody s_dot) (defScope s_dot) .none kV_dot dc_dot pm_dot an_dot cd_dot ct_dot), sl_dot⟩)
    (cdw_dot : PySem.W.codeIn K cd_dot "dot" = true)
    (kp_dot : PySem.W.keepIn K (.ref f_dot) = true)
    (a_is_fit : PySem.W.nsIn K mainGlobals "is_fit" = some (some (.ref f_is_fit)))
    (l_is_fit : K.lookup f_is_fit = some ⟨oc_is_fit, od_is_fit, .func (PySem.W.fnOf "is_fit" "is_fit" (defArgs s_is_fit) (defBody s_is_fit) (defScope s_is_fit) .none kV_is_fit dc_is_fit pm_is_fit an_is_fit cd_is_fit ct_is_fit), sl_is_fit⟩)
    (cdw_is_fit : PySem.W.codeIn K cd_is_fit "is_fit" = true)
    (kp_is_fit : PySem.W.keepIn K (.ref f_is_fit) = true)
    (a_are_fit : PySem.W.nsIn K mainGlobals "are_fit" = some (some (.ref f_are_fit)))
    (l_are_fit : K.lookup f_are_fit = some ⟨oc_are_fit, od_are_fit, .func (PySem.W.fnOf "are_fit" "are_fit" (defArgs s_are_fit) (defBody s_are_fit) (defScope s_are_fit) .none kV_are_fit dc_are_fit pm_are_fit an_are_fit cd_are_fit ct_are_fit), sl_are_fit⟩)
    (cdw_are_fit : PySem.W.codeIn K cd_are_fit "are_fit" = true)
    (kp_are_fit : PySem.W.keepIn K (.ref f_are_fit) = true)
    (a_scaled_for : PySem.W.nsIn K mainGlobals "scaled_for" = some (some (.ref f_scaled_for)))
    (l_scaled_for : K.lookup f_scaled_for = some ⟨oc_scaled_for, od_scaled_for, .func (PySem.W.fnOf "scaled_for" "scaled_for" (defArgs s_scaled_for) (defBody s_scaled_for) (defScope s_scaled_for) .none kV_scaled_for dc_scaled_for pm_scaled_for an_scaled_for cd_scaled_for ct_scaled_for), sl_scaled_for⟩)
    (cdw_scaled_for : PySem.W.codeIn K cd_scaled_for "scaled_for" = true)
    (kp_scaled_for : PySem.W.keepIn K (.ref f_scaled_for) = true)
    (a_loads : PySem.W.nsIn K mainGlobals "loads" = some (some (.ref f_loads)))
    (l_loads : K.lookup f_loads = some ⟨oc_loads, od_loads, .func (PySem.W.fnOf "loads" "loads" (defArgs s_loads) (defBody s_loads) (defScope s_loads) .none kV_loads dc_loads pm_loads an_loads cd_loads ct_loads), sl_loads⟩)
    (cdw_loads : PySem.W.codeIn K cd_loads "loads" = true)
    (kp_loads : PySem.W.keepIn K (.ref f_loads) = true)
    (a_gain : PySem.W.nsIn K mainGlobals "gain" = some (some (.ref f_gain)))
    (l_gain : K.lookup f_gain = some ⟨oc_gain, od_gain, .func (PySem.W.fnOf "gain" "gain" (defArgs s_gain) (defBody s_gain) (defScope s_gain) .none kV_gain dc_gain pm_gain an_gain cd_gain ct_gain), sl_gain⟩)
    (cdw_gain : PySem.W.codeIn K cd_gain "gain" = true)
    (kp_gain : PySem.W.keepIn K (.ref f_gain) = true)
    (a_need_few : PySem.W.nsIn K mainGlobals "need_few" = some (some (.ref f_need_few)))
    (l_need_few : K.lookup f_need_few = some ⟨oc_need_few, od_need_few, .func (PySem.W.fnOf "need_few" "need_few" (defArgs s_need_few) (defBody s_need_few) (defScope s_need_few) .none kV_need_few dc_need_few pm_need_few an_need_few cd_need_few ct_need_few), sl_need_few⟩)
    (cdw_need_few : PySem.W.codeIn K cd_need_few "need_few" = true)
    (kp_need_few : PySem.W.keepIn K (.ref f_need_few) = true)
    (a_need_fixing : PySem.W.nsIn K mainGlobals "need_fixing" = some (some (.ref f_need_fixing)))
    (l_need_fixing : K.lookup f_need_fixing = some ⟨oc_need_fixing, od_need_fixing, .func (PySem.W.fnOf "need_fixing" "need_fixing" (defArgs s_need_fixing) (defBody s_need_fixing) (defScope s_need_fixing) .none kV_need_fixing dc_need_fixing pm_need_fixing an_need_fixing cd_need_fixing ct_need_fixing), sl_need_fixing⟩)
    (cdw_need_fixing : PySem.W.codeIn K cd_need_fixing "need_fixing" = true)
    (kp_need_fixing : PySem.W.keepIn K (.ref f_need_fixing) = true)
    (a_bound_with : PySem.W.nsIn K mainGlobals "bound_with" = some (some (.ref f_bound_with)))
    (l_bound_with : K.lookup f_bound_with = some ⟨oc_bound_with, od_bound_with, .func (PySem.W.fnOf "bound_with" "bound_with" (defArgs s_bound_with) (defBody s_bound_with) (defScope s_bound_with) .none kV_bound_with dc_bound_with pm_bound_with an_bound_with cd_bound_with ct_bound_with), sl_bound_with⟩)
    (cdw_bound_with : PySem.W.codeIn K cd_bound_with "bound_with" = true)
    (kp_bound_with : PySem.W.keepIn K (.ref f_bound_with) = true)
    (a_case_bound : PySem.W.nsIn K mainGlobals "case_bound" = some (some (.ref f_case_bound)))
    (l_case_bound : K.lookup f_case_bound = some ⟨oc_case_bound, od_case_bound, .func (PySem.W.fnOf "case_bound" "case_bound" (defArgs s_case_bound) (defBody s_case_bound) (defScope s_case_bound) .none kV_case_bound dc_case_bound pm_case_bound an_case_bound cd_case_bound ct_case_bound), sl_case_bound⟩)
    (cdw_case_bound : PySem.W.codeIn K cd_case_bound "case_bound" = true)
    (kp_case_bound : PySem.W.keepIn K (.ref f_case_bound) = true)
    (a_shows_none : PySem.W.nsIn K mainGlobals "shows_none" = some (some (.ref f_shows_none)))
    (l_shows_none : K.lookup f_shows_none = some ⟨oc_shows_none, od_shows_none, .func (PySem.W.fnOf "shows_none" "shows_none" (defArgs s_shows_none) (defBody s_shows_none) (defScope s_shows_none) .none kV_shows_none dc_shows_none pm_shows_none an_shows_none cd_shows_none ct_shows_none), sl_shows_none⟩)
    (cdw_shows_none : PySem.W.codeIn K cd_shows_none "shows_none" = true)
    (kp_shows_none : PySem.W.keepIn K (.ref f_shows_none) = true)
    (a_first_under : PySem.W.nsIn K mainGlobals "first_under" = some (some (.ref f_first_under)))
    (l_first_under : K.lookup f_first_under = some ⟨oc_first_under, od_first_under, .func (PySem.W.fnOf "first_under" "first_under" (defArgs s_first_under) (defBody s_first_under) (defScope s_first_under) .none kV_first_under dc_first_under pm_first_under an_first_under cd_first_under ct_first_under), sl_first_under⟩)
    (cdw_first_under : PySem.W.codeIn K cd_first_under "first_under" = true)
    (kp_first_under : PySem.W.keepIn K (.ref f_first_under) = true)
    (a_closes : PySem.W.nsIn K mainGlobals "closes" = some (some (.ref f_closes)))
    (l_closes : K.lookup f_closes = some ⟨oc_closes, od_closes, .func (PySem.W.fnOf "closes" "closes" (defArgs s_closes) (defBody s_closes) (defScope s_closes) .none kV_closes dc_closes pm_closes an_closes cd_closes ct_closes), sl_closes⟩)
    (cdw_closes : PySem.W.codeIn K cd_closes "closes" = true)
    (kp_closes : PySem.W.keepIn K (.ref f_closes) = true)
    (a_law_numbers : PySem.W.nsIn K mainGlobals "_law_numbers" = some (some (.ref f_law_numbers)))
    (l_law_numbers : K.lookup f_law_numbers = some ⟨oc_law_numbers, od_law_numbers, .func (PySem.W.fnOf "_law_numbers" "_law_numbers" (defArgs s_law_numbers) (defBody s_law_numbers) (defScope s_law_numbers) .none kV_law_numbers dc_law_numbers pm_law_numbers an_law_numbers cd_law_numbers ct_law_numbers), sl_law_numbers⟩)
    (cdw_law_numbers : PySem.W.codeIn K cd_law_numbers "_law_numbers" = true)
    (kp_law_numbers : PySem.W.keepIn K (.ref f_law_numbers) = true)
    (a_law_lowest : PySem.W.nsIn K mainGlobals "_law_lowest" = some (some (.ref f_law_lowest)))
    (l_law_lowest : K.lookup f_law_lowest = some ⟨oc_law_lowest, od_law_lowest, .func (PySem.W.fnOf "_law_lowest" "_law_lowest" (defArgs s_law_lowest) (defBody s_law_lowest) (defScope s_law_lowest) .none kV_law_lowest dc_law_lowest pm_law_lowest an_law_lowest cd_law_lowest ct_law_lowest), sl_law_lowest⟩)
    (cdw_law_lowest : PySem.W.codeIn K cd_law_lowest "_law_lowest" = true)
    (kp_law_lowest : PySem.W.keepIn K (.ref f_law_lowest) = true)
    (a_law_plus : PySem.W.nsIn K mainGlobals "_law_plus" = some (some (.ref f_law_plus)))
    (l_law_plus : K.lookup f_law_plus = some ⟨oc_law_plus, od_law_plus, .func (PySem.W.fnOf "_law_plus" "_law_plus" (defArgs s_law_plus) (defBody s_law_plus) (defScope s_law_plus) .none kV_law_plus dc_law_plus pm_law_plus an_law_plus cd_law_plus ct_law_plus), sl_law_plus⟩)
    (cdw_law_plus : PySem.W.codeIn K cd_law_plus "_law_plus" = true)
    (kp_law_plus : PySem.W.keepIn K (.ref f_law_plus) = true)
    (a_law_added : PySem.W.nsIn K mainGlobals "_law_added" = some (some (.ref f_law_added)))
    (l_law_added : K.lookup f_law_added = some ⟨oc_law_added, od_law_added, .func (PySem.W.fnOf "_law_added" "_law_added" (defArgs s_law_added) (defBody s_law_added) (defScope s_law_added) .none kV_law_added dc_law_added pm_law_added an_law_added cd_law_added ct_law_added), sl_law_added⟩)
    (cdw_law_added : PySem.W.codeIn K cd_law_added "_law_added" = true)
    (kp_law_added : PySem.W.keepIn K (.ref f_law_added) = true)
    (a_law_weighted : PySem.W.nsIn K mainGlobals "_law_weighted" = some (some (.ref f_law_weighted)))
    (l_law_weighted : K.lookup f_law_weighted = some ⟨oc_law_weighted, od_law_weighted, .func (PySem.W.fnOf "_law_weighted" "_law_weighted" (defArgs s_law_weighted) (defBody s_law_weighted) (defScope s_law_weighted) .none kV_law_weighted dc_law_weighted pm_law_weighted an_law_weighted cd_law_weighted ct_law_weighted), sl_law_weighted⟩)
    (cdw_law_weighted : PySem.W.codeIn K cd_law_weighted "_law_weighted" = true)
    (kp_law_weighted : PySem.W.keepIn K (.ref f_law_weighted) = true)
    (a_law_program : PySem.W.nsIn K mainGlobals "_law_program" = some (some (.ref f_law_program)))
    (l_law_program : K.lookup f_law_program = some ⟨oc_law_program, od_law_program, .func (PySem.W.fnOf "_law_program" "_law_program" (defArgs s_law_program) (defBody s_law_program) (defScope s_law_program) .none kV_law_program dc_law_program pm_law_program an_law_program cd_law_program ct_law_program), sl_law_program⟩)
    (cdw_law_program : PySem.W.codeIn K cd_law_program "_law_program" = true)
    (kp_law_program : PySem.W.keepIn K (.ref f_law_program) = true)
    (a_law_good : PySem.W.nsIn K mainGlobals "_law_good" = some (some (.ref f_law_good)))
    (l_law_good : K.lookup f_law_good = some ⟨oc_law_good, od_law_good, .func (PySem.W.fnOf "_law_good" "_law_good" (defArgs s_law_good) (defBody s_law_good) (defScope s_law_good) .none kV_law_good dc_law_good pm_law_good an_law_good cd_law_good ct_law_good), sl_law_good⟩)
    (cdw_law_good : PySem.W.codeIn K cd_law_good "_law_good" = true)
    (kp_law_good : PySem.W.keepIn K (.ref f_law_good) = true)
    (a_law_lists : PySem.W.nsIn K mainGlobals "_law_lists" = some (some (.ref f_law_lists)))
    (l_law_lists : K.lookup f_law_lists = some ⟨oc_law_lists, od_law_lists, .func (PySem.W.fnOf "_law_lists" "_law_lists" (defArgs s_law_lists) (defBody s_law_lists) (defScope s_law_lists) .none kV_law_lists dc_law_lists pm_law_lists an_law_lists cd_law_lists ct_law_lists), sl_law_lists⟩)
    (cdw_law_lists : PySem.W.codeIn K cd_law_lists "_law_lists" = true)
    (kp_law_lists : PySem.W.keepIn K (.ref f_law_lists) = true)
    (a_law_worth : PySem.W.nsIn K mainGlobals "_law_worth" = some (some (.ref f_law_worth)))
    (l_law_worth : K.lookup f_law_worth = some ⟨oc_law_worth, od_law_worth, .func (PySem.W.fnOf "_law_worth" "_law_worth" (defArgs s_law_worth) (defBody s_law_worth) (defScope s_law_worth) .none kV_law_worth dc_law_worth pm_law_worth an_law_worth cd_law_worth ct_law_worth), sl_law_worth⟩)
    (cdw_law_worth : PySem.W.codeIn K cd_law_worth "_law_worth" = true)
    (kp_law_worth : PySem.W.keepIn K (.ref f_law_worth) = true)
    (a_law_fit : PySem.W.nsIn K mainGlobals "_law_fit" = some (some (.ref f_law_fit)))
    (l_law_fit : K.lookup f_law_fit = some ⟨oc_law_fit, od_law_fit, .func (PySem.W.fnOf "_law_fit" "_law_fit" (defArgs s_law_fit) (defBody s_law_fit) (defScope s_law_fit) .none kV_law_fit dc_law_fit pm_law_fit an_law_fit cd_law_fit ct_law_fit), sl_law_fit⟩)
    (cdw_law_fit : PySem.W.codeIn K cd_law_fit "_law_fit" = true)
    (kp_law_fit : PySem.W.keepIn K (.ref f_law_fit) = true)
    (a_law_bound : PySem.W.nsIn K mainGlobals "_law_bound" = some (some (.ref f_law_bound)))
    (l_law_bound : K.lookup f_law_bound = some ⟨oc_law_bound, od_law_bound, .func (PySem.W.fnOf "_law_bound" "_law_bound" (defArgs s_law_bound) (defBody s_law_bound) (defScope s_law_bound) .none kV_law_bound dc_law_bound pm_law_bound an_law_bound cd_law_bound ct_law_bound), sl_law_bound⟩)
    (cdw_law_bound : PySem.W.codeIn K cd_law_bound "_law_bound" = true)
    (kp_law_bound : PySem.W.keepIn K (.ref f_law_bound) = true)
    (a_law_shows_none : PySem.W.nsIn K mainGlobals "_law_shows_none" = some (some (.ref f_law_shows_none)))
    (l_law_shows_none : K.lookup f_law_shows_none = some ⟨oc_law_shows_none, od_law_shows_none, .func (PySem.W.fnOf "_law_shows_none" "_law_shows_none" (defArgs s_law_shows_none) (defBody s_law_shows_none) (defScope s_law_shows_none) .none kV_law_shows_none dc_law_shows_none pm_law_shows_none an_law_shows_none cd_law_shows_none ct_law_shows_none), sl_law_shows_none⟩)
    (cdw_law_shows_none : PySem.W.codeIn K cd_law_shows_none "_law_shows_none" = true)
    (kp_law_shows_none : PySem.W.keepIn K (.ref f_law_shows_none) = true)
    (a_law_closes : PySem.W.nsIn K mainGlobals "_law_closes" = some (some (.ref f_law_closes)))
    (l_law_closes : K.lookup f_law_closes = some ⟨oc_law_closes, od_law_closes, .func (PySem.W.fnOf "_law_closes" "_law_closes" (defArgs s_law_closes) (defBody s_law_closes) (defScope s_law_closes) .none kV_law_closes dc_law_closes pm_law_closes an_law_closes cd_law_closes ct_law_closes), sl_law_closes⟩)
    (cdw_law_closes : PySem.W.codeIn K cd_law_closes "_law_closes" = true)
    (kp_law_closes : PySem.W.keepIn K (.ref f_law_closes) = true)
    (a_law_some : PySem.W.nsIn K mainGlobals "_law_some" = some (some (.ref f_law_some)))
    (l_law_some : K.lookup f_law_some = some ⟨oc_law_some, od_law_some, .func (PySem.W.fnOf "_law_some" "_law_some" (defArgs s_law_some) (defBody s_law_some) (defScope s_law_some) .none kV_law_some dc_law_some pm_law_some an_law_some cd_law_some ct_law_some), sl_law_some⟩)
    (cdw_law_some : PySem.W.codeIn K cd_law_some "_law_some" = true)
    (kp_law_some : PySem.W.keepIn K (.ref f_law_some) = true)
    (a_law_refused : PySem.W.nsIn K mainGlobals "_law_refused" = some (some (.ref f_law_refused)))
    (l_law_refused : K.lookup f_law_refused = some ⟨oc_law_refused, od_law_refused, .func (PySem.W.fnOf "_law_refused" "_law_refused" (defArgs s_law_refused) (defBody s_law_refused) (defScope s_law_refused) .none kV_law_refused dc_law_refused pm_law_refused an_law_refused cd_law_refused ct_law_refused), sl_law_refused⟩)
    (cdw_law_refused : PySem.W.codeIn K cd_law_refused "_law_refused" = true)
    (kp_law_refused : PySem.W.keepIn K (.ref f_law_refused) = true)
    (a_law_refusals : PySem.W.nsIn K mainGlobals "_law_refusals" = some (some (.ref f_law_refusals)))
    (l_law_refusals : K.lookup f_law_refusals = some ⟨oc_law_refusals, od_law_refusals, .func (PySem.W.fnOf "_law_refusals" "_law_refusals" (defArgs s_law_refusals) (defBody s_law_refusals) (defScope s_law_refusals) .none kV_law_refusals dc_law_refusals pm_law_refusals an_law_refusals cd_law_refusals ct_law_refusals), sl_law_refusals⟩)
    (cdw_law_refusals : PySem.W.codeIn K cd_law_refusals "_law_refusals" = true)
    (kp_law_refusals : PySem.W.keepIn K (.ref f_law_refusals) = true)
    (a_law_true : PySem.W.nsIn K mainGlobals "_law_true" = some (some (.ref f_law_true)))
    (l_law_true : K.lookup f_law_true = some ⟨oc_law_true, od_law_true, .func (PySem.W.fnOf "_law_true" "_law_true" (defArgs s_law_true) (defBody s_law_true) (defScope s_law_true) .none kV_law_true dc_law_true pm_law_true an_law_true cd_law_true ct_law_true), sl_law_true⟩)
    (cdw_law_true : PySem.W.codeIn K cd_law_true "_law_true" = true)
    (kp_law_true : PySem.W.keepIn K (.ref f_law_true) = true)
    (a_law : PySem.W.nsIn K mainGlobals "law" = some (some (.ref f_law)))
    (l_law : K.lookup f_law = some ⟨oc_law, od_law, .func (PySem.W.fnOf "law" "law" (defArgs s_law) (defBody s_law) (defScope s_law) .none kV_law dc_law pm_law an_law cd_law ct_law), sl_law⟩)
    (cdw_law : PySem.W.codeIn K cd_law "law" = true)
    (kp_law : PySem.W.keepIn K (.ref f_law) = true)
    (pg_Program : PySem.W.plainGet K c_Program Str.empty = true)
    (hd_Program : PySem.W.hasDictIn K c_Program = true)
    (po_Program : PySem.W.plainOver K c_Program = true)
    (sa_Program : PySem.W.findIn K (.ref c_Program) "__setattr__" = some (some (.builtin "object.__setattr__")))
    (mk_Program : PySem.W.makesIn K c_Program = true)
    (kc_Program : PySem.W.keepIn K (.ref c_Program) = true)
    (na_Program__prices : PySem.W.findIn K (.ref c_Program) "_prices" = some none)
    (na_Program__rows : PySem.W.findIn K (.ref c_Program) "_rows" = some none)
    (gt : PySem.W.specialIn K (.builtin "object.__class__") "__get__" = some (some (.builtin "getset_descriptor.__get__")))
    (tk : PySem.W.takesIn K (.builtin "object.__class__") = some true)
    (ib : PySem.W.isClsIn K c_WebError = true)
    (xL_WebError : K.lookup c_WebError = some (excClassObj nm_WebError qn_WebError c_WebError N_WebError bs_WebError bm_WebError true st_WebError sub_WebError ab_WebError col_WebError dd_WebError m0_WebError m1_WebError m2_WebError m3_WebError m5_WebError "ValueError.__new__"))
    (rv_WebError : PySem.HandSPX.refsVE bm_WebError = true)
    (sa_WebError : PySem.W.findIn K (.ref c_WebError) "__setattr__" = some (some (.builtin "object.__setattr__")))
    (ga_WebError : PySem.W.findIn K (.ref c_WebError) "__getattribute__" = some (some (.builtin "BaseException.__getattribute__")))
    (gg_WebError : PySem.W.findIn K (.ref c_WebError) "__getattr__" = some none)
    (nb_WebError : PySem.W.findIn K (.ref c_WebError) "at" = some none)
    (in_WebError : PySem.W.findIn K (.ref c_WebError) "__init__" = some (some (.ref f_WebError___init__)))
    (eC_WebError : PySem.W.subIn K (.ref c_WebError) (.type "BaseException") = some true)
    (tC_WebError : PySem.W.typeIn K (.ref c_WebError) = some (.type "type"))
    (hC_WebError : PySem.W.hasDictIn K c_WebError = true)
    (kC_WebError : PySem.W.keepIn K (.ref c_WebError) = true)
    (cl_WebError : PySem.W.findIn K (.ref c_WebError) "__class__" = some (some (.builtin "object.__class__")))
    (mr_WebError : PySem.W.mroIn K c_WebError (.type "object") = some true)
    (xL_OutOfRange : K.lookup c_OutOfRange = some (excClassObj nm_OutOfRange qn_OutOfRange c_OutOfRange N_OutOfRange bs_OutOfRange bm_OutOfRange true st_OutOfRange sub_OutOfRange ab_OutOfRange col_OutOfRange dd_OutOfRange m0_OutOfRange m1_OutOfRange m2_OutOfRange m3_OutOfRange m5_OutOfRange "ValueError.__new__"))
    (rv_OutOfRange : PySem.HandSPX.refsVE bm_OutOfRange = true)
    (sa_OutOfRange : PySem.W.findIn K (.ref c_OutOfRange) "__setattr__" = some (some (.builtin "object.__setattr__")))
    (ga_OutOfRange : PySem.W.findIn K (.ref c_OutOfRange) "__getattribute__" = some (some (.builtin "BaseException.__getattribute__")))
    (gg_OutOfRange : PySem.W.findIn K (.ref c_OutOfRange) "__getattr__" = some none)
    (nb_OutOfRange : PySem.W.findIn K (.ref c_OutOfRange) "at" = some none)
    (in_OutOfRange : PySem.W.findIn K (.ref c_OutOfRange) "__init__" = some (some (.ref f_WebError___init__)))
    (eC_OutOfRange : PySem.W.subIn K (.ref c_OutOfRange) (.type "BaseException") = some true)
    (tC_OutOfRange : PySem.W.typeIn K (.ref c_OutOfRange) = some (.type "type"))
    (hC_OutOfRange : PySem.W.hasDictIn K c_OutOfRange = true)
    (kC_OutOfRange : PySem.W.keepIn K (.ref c_OutOfRange) = true)
    (cl_OutOfRange : PySem.W.findIn K (.ref c_OutOfRange) "__class__" = some (some (.builtin "object.__class__")))
    (mr_OutOfRange : PySem.W.mroIn K c_OutOfRange (.type "object") = some true)
    (sb_OutOfRange : PySem.W.subIn K (.ref c_OutOfRange) (.ref c_WebError) = some true)
    (is_OutOfRange_OutOfRange : PySem.W.kitOne K (.ref c_OutOfRange) (.ref c_OutOfRange) = some true)
    (is_OutOfRange_TooMany : PySem.W.kitOne K (.ref c_OutOfRange) (.ref c_TooMany) = some false)
    (is_OutOfRange_ZeroDivisor : PySem.W.kitOne K (.ref c_OutOfRange) (.ref c_ZeroDivisor) = some false)
    (is_OutOfRange_BadRelation : PySem.W.kitOne K (.ref c_OutOfRange) (.ref c_BadRelation) = some false)
    (is_OutOfRange_WrongSize : PySem.W.kitOne K (.ref c_OutOfRange) (.ref c_WrongSize) = some false)
    (is_OutOfRange_BadFixing : PySem.W.kitOne K (.ref c_OutOfRange) (.ref c_BadFixing) = some false)
    (xL_TooMany : K.lookup c_TooMany = some (excClassObj nm_TooMany qn_TooMany c_TooMany N_TooMany bs_TooMany bm_TooMany true st_TooMany sub_TooMany ab_TooMany col_TooMany dd_TooMany m0_TooMany m1_TooMany m2_TooMany m3_TooMany m5_TooMany "ValueError.__new__"))
    (rv_TooMany : PySem.HandSPX.refsVE bm_TooMany = true)
    (sa_TooMany : PySem.W.findIn K (.ref c_TooMany) "__setattr__" = some (some (.builtin "object.__setattr__")))
    (ga_TooMany : PySem.W.findIn K (.ref c_TooMany) "__getattribute__" = some (some (.builtin "BaseException.__getattribute__")))
    (gg_TooMany : PySem.W.findIn K (.ref c_TooMany) "__getattr__" = some none)
    (nb_TooMany : PySem.W.findIn K (.ref c_TooMany) "at" = some none)
    (in_TooMany : PySem.W.findIn K (.ref c_TooMany) "__init__" = some (some (.ref f_WebError___init__)))
    (eC_TooMany : PySem.W.subIn K (.ref c_TooMany) (.type "BaseException") = some true)
    (tC_TooMany : PySem.W.typeIn K (.ref c_TooMany) = some (.type "type"))
    (hC_TooMany : PySem.W.hasDictIn K c_TooMany = true)
    (kC_TooMany : PySem.W.keepIn K (.ref c_TooMany) = true)
    (cl_TooMany : PySem.W.findIn K (.ref c_TooMany) "__class__" = some (some (.builtin "object.__class__")))
    (mr_TooMany : PySem.W.mroIn K c_TooMany (.type "object") = some true)
    (sb_TooMany : PySem.W.subIn K (.ref c_TooMany) (.ref c_WebError) = some true)
    (is_TooMany_OutOfRange : PySem.W.kitOne K (.ref c_TooMany) (.ref c_OutOfRange) = some false)
    (is_TooMany_TooMany : PySem.W.kitOne K (.ref c_TooMany) (.ref c_TooMany) = some true)
    (is_TooMany_ZeroDivisor : PySem.W.kitOne K (.ref c_TooMany) (.ref c_ZeroDivisor) = some false)
    (is_TooMany_BadRelation : PySem.W.kitOne K (.ref c_TooMany) (.ref c_BadRelation) = some false)
    (is_TooMany_WrongSize : PySem.W.kitOne K (.ref c_TooMany) (.ref c_WrongSize) = some false)
    (is_TooMany_BadFixing : PySem.W.kitOne K (.ref c_TooMany) (.ref c_BadFixing) = some false)
    (xL_ZeroDivisor : K.lookup c_ZeroDivisor = some (excClassObj nm_ZeroDivisor qn_ZeroDivisor c_ZeroDivisor N_ZeroDivisor bs_ZeroDivisor bm_ZeroDivisor true st_ZeroDivisor sub_ZeroDivisor ab_ZeroDivisor col_ZeroDivisor dd_ZeroDivisor m0_ZeroDivisor m1_ZeroDivisor m2_ZeroDivisor m3_ZeroDivisor m5_ZeroDivisor "ValueError.__new__"))
    (rv_ZeroDivisor : PySem.HandSPX.refsVE bm_ZeroDivisor = true)
    (sa_ZeroDivisor : PySem.W.findIn K (.ref c_ZeroDivisor) "__setattr__" = some (some (.builtin "object.__setattr__")))
    (ga_ZeroDivisor : PySem.W.findIn K (.ref c_ZeroDivisor) "__getattribute__" = some (some (.builtin "BaseException.__getattribute__")))
    (gg_ZeroDivisor : PySem.W.findIn K (.ref c_ZeroDivisor) "__getattr__" = some none)
    (nb_ZeroDivisor : PySem.W.findIn K (.ref c_ZeroDivisor) "at" = some none)
    (in_ZeroDivisor : PySem.W.findIn K (.ref c_ZeroDivisor) "__init__" = some (some (.ref f_WebError___init__)))
    (eC_ZeroDivisor : PySem.W.subIn K (.ref c_ZeroDivisor) (.type "BaseException") = some true)
    (tC_ZeroDivisor : PySem.W.typeIn K (.ref c_ZeroDivisor) = some (.type "type"))
    (hC_ZeroDivisor : PySem.W.hasDictIn K c_ZeroDivisor = true)
    (kC_ZeroDivisor : PySem.W.keepIn K (.ref c_ZeroDivisor) = true)
    (cl_ZeroDivisor : PySem.W.findIn K (.ref c_ZeroDivisor) "__class__" = some (some (.builtin "object.__class__")))
    (mr_ZeroDivisor : PySem.W.mroIn K c_ZeroDivisor (.type "object") = some true)
    (sb_ZeroDivisor : PySem.W.subIn K (.ref c_ZeroDivisor) (.ref c_WebError) = some true)
    (is_ZeroDivisor_OutOfRange : PySem.W.kitOne K (.ref c_ZeroDivisor) (.ref c_OutOfRange) = some false)
    (is_ZeroDivisor_TooMany : PySem.W.kitOne K (.ref c_ZeroDivisor) (.ref c_TooMany) = some false)
    (is_ZeroDivisor_ZeroDivisor : PySem.W.kitOne K (.ref c_ZeroDivisor) (.ref c_ZeroDivisor) = some true)
    (is_ZeroDivisor_BadRelation : PySem.W.kitOne K (.ref c_ZeroDivisor) (.ref c_BadRelation) = some false)
    (is_ZeroDivisor_WrongSize : PySem.W.kitOne K (.ref c_ZeroDivisor) (.ref c_WrongSize) = some false)
    (is_ZeroDivisor_BadFixing : PySem.W.kitOne K (.ref c_ZeroDivisor) (.ref c_BadFixing) = some false)
    (xL_BadRelation : K.lookup c_BadRelation = some (excClassObj nm_BadRelation qn_BadRelation c_BadRelation N_BadRelation bs_BadRelation bm_BadRelation true st_BadRelation sub_BadRelation ab_BadRelation col_BadRelation dd_BadRelation m0_BadRelation m1_BadRelation m2_BadRelation m3_BadRelation m5_BadRelation "ValueError.__new__"))
    (rv_BadRelation : PySem.HandSPX.refsVE bm_BadRelation = true)
    (sa_BadRelation : PySem.W.findIn K (.ref c_BadRelation) "__setattr__" = some (some (.builtin "object.__setattr__")))
    (ga_BadRelation : PySem.W.findIn K (.ref c_BadRelation) "__getattribute__" = some (some (.builtin "BaseException.__getattribute__")))
    (gg_BadRelation : PySem.W.findIn K (.ref c_BadRelation) "__getattr__" = some none)
    (nb_BadRelation : PySem.W.findIn K (.ref c_BadRelation) "at" = some none)
    (in_BadRelation : PySem.W.findIn K (.ref c_BadRelation) "__init__" = some (some (.ref f_WebError___init__)))
    (eC_BadRelation : PySem.W.subIn K (.ref c_BadRelation) (.type "BaseException") = some true)
    (tC_BadRelation : PySem.W.typeIn K (.ref c_BadRelation) = some (.type "type"))
    (hC_BadRelation : PySem.W.hasDictIn K c_BadRelation = true)
    (kC_BadRelation : PySem.W.keepIn K (.ref c_BadRelation) = true)
    (cl_BadRelation : PySem.W.findIn K (.ref c_BadRelation) "__class__" = some (some (.builtin "object.__class__")))
    (mr_BadRelation : PySem.W.mroIn K c_BadRelation (.type "object") = some true)
    (sb_BadRelation : PySem.W.subIn K (.ref c_BadRelation) (.ref c_WebError) = some true)
    (is_BadRelation_OutOfRange : PySem.W.kitOne K (.ref c_BadRelation) (.ref c_OutOfRange) = some false)
    (is_BadRelation_TooMany : PySem.W.kitOne K (.ref c_BadRelation) (.ref c_TooMany) = some false)
    (is_BadRelation_ZeroDivisor : PySem.W.kitOne K (.ref c_BadRelation) (.ref c_ZeroDivisor) = some false)
    (is_BadRelation_BadRelation : PySem.W.kitOne K (.ref c_BadRelation) (.ref c_BadRelation) = some true)
    (is_BadRelation_WrongSize : PySem.W.kitOne K (.ref c_BadRelation) (.ref c_WrongSize) = some false)
    (is_BadRelation_BadFixing : PySem.W.kitOne K (.ref c_BadRelation) (.ref c_BadFixing) = some false)
    (xL_WrongSize : K.lookup c_WrongSize = some (excClassObj nm_WrongSize qn_WrongSize c_WrongSize N_WrongSize bs_WrongSize bm_WrongSize true st_WrongSize sub_WrongSize ab_WrongSize col_WrongSize dd_WrongSize m0_WrongSize m1_WrongSize m2_WrongSize m3_WrongSize m5_WrongSize "ValueError.__new__"))
    (rv_WrongSize : PySem.HandSPX.refsVE bm_WrongSize = true)
    (sa_WrongSize : PySem.W.findIn K (.ref c_WrongSize) "__setattr__" = some (some (.builtin "object.__setattr__")))
    (ga_WrongSize : PySem.W.findIn K (.ref c_WrongSize) "__getattribute__" = some (some (.builtin "BaseException.__getattribute__")))
    (gg_WrongSize : PySem.W.findIn K (.ref c_WrongSize) "__getattr__" = some none)
    (nb_WrongSize : PySem.W.findIn K (.ref c_WrongSize) "at" = some none)
    (in_WrongSize : PySem.W.findIn K (.ref c_WrongSize) "__init__" = some (some (.ref f_WebError___init__)))
    (eC_WrongSize : PySem.W.subIn K (.ref c_WrongSize) (.type "BaseException") = some true)
    (tC_WrongSize : PySem.W.typeIn K (.ref c_WrongSize) = some (.type "type"))
    (hC_WrongSize : PySem.W.hasDictIn K c_WrongSize = true)
    (kC_WrongSize : PySem.W.keepIn K (.ref c_WrongSize) = true)
    (cl_WrongSize : PySem.W.findIn K (.ref c_WrongSize) "__class__" = some (some (.builtin "object.__class__")))
    (mr_WrongSize : PySem.W.mroIn K c_WrongSize (.type "object") = some true)
    (sb_WrongSize : PySem.W.subIn K (.ref c_WrongSize) (.ref c_WebError) = some true)
    (is_WrongSize_OutOfRange : PySem.W.kitOne K (.ref c_WrongSize) (.ref c_OutOfRange) = some false)
    (is_WrongSize_TooMany : PySem.W.kitOne K (.ref c_WrongSize) (.ref c_TooMany) = some false)
    (is_WrongSize_ZeroDivisor : PySem.W.kitOne K (.ref c_WrongSize) (.ref c_ZeroDivisor) = some false)
    (is_WrongSize_BadRelation : PySem.W.kitOne K (.ref c_WrongSize) (.ref c_BadRelation) = some false)
    (is_WrongSize_WrongSize : PySem.W.kitOne K (.ref c_WrongSize) (.ref c_WrongSize) = some true)
    (is_WrongSize_BadFixing : PySem.W.kitOne K (.ref c_WrongSize) (.ref c_BadFixing) = some false)
    (xL_BadFixing : K.lookup c_BadFixing = some (excClassObj nm_BadFixing qn_BadFixing c_BadFixing N_BadFixing bs_BadFixing bm_BadFixing true st_BadFixing sub_BadFixing ab_BadFixing col_BadFixing dd_BadFixing m0_BadFixing m1_BadFixing m2_BadFixing m3_BadFixing m5_BadFixing "ValueError.__new__"))
    (rv_BadFixing : PySem.HandSPX.refsVE bm_BadFixing = true)
    (sa_BadFixing : PySem.W.findIn K (.ref c_BadFixing) "__setattr__" = some (some (.builtin "object.__setattr__")))
    (ga_BadFixing : PySem.W.findIn K (.ref c_BadFixing) "__getattribute__" = some (some (.builtin "BaseException.__getattribute__")))
    (gg_BadFixing : PySem.W.findIn K (.ref c_BadFixing) "__getattr__" = some none)
    (nb_BadFixing : PySem.W.findIn K (.ref c_BadFixing) "at" = some none)
    (in_BadFixing : PySem.W.findIn K (.ref c_BadFixing) "__init__" = some (some (.ref f_WebError___init__)))
    (eC_BadFixing : PySem.W.subIn K (.ref c_BadFixing) (.type "BaseException") = some true)
    (tC_BadFixing : PySem.W.typeIn K (.ref c_BadFixing) = some (.type "type"))
    (hC_BadFixing : PySem.W.hasDictIn K c_BadFixing = true)
    (kC_BadFixing : PySem.W.keepIn K (.ref c_BadFixing) = true)
    (cl_BadFixing : PySem.W.findIn K (.ref c_BadFixing) "__class__" = some (some (.builtin "object.__class__")))
    (mr_BadFixing : PySem.W.mroIn K c_BadFixing (.type "object") = some true)
    (sb_BadFixing : PySem.W.subIn K (.ref c_BadFixing) (.ref c_WebError) = some true)
    (is_BadFixing_OutOfRange : PySem.W.kitOne K (.ref c_BadFixing) (.ref c_OutOfRange) = some false)
    (is_BadFixing_TooMany : PySem.W.kitOne K (.ref c_BadFixing) (.ref c_TooMany) = some false)
    (is_BadFixing_ZeroDivisor : PySem.W.kitOne K (.ref c_BadFixing) (.ref c_ZeroDivisor) = some false)
    (is_BadFixing_BadRelation : PySem.W.kitOne K (.ref c_BadFixing) (.ref c_BadRelation) = some false)
    (is_BadFixing_WrongSize : PySem.W.kitOne K (.ref c_BadFixing) (.ref c_WrongSize) = some false)
    (is_BadFixing_BadFixing : PySem.W.kitOne K (.ref c_BadFixing) (.ref c_BadFixing) = some true)
    (z_abs : PySem.W.nsIn K mainGlobals "abs" = some none)
    (z_all : PySem.W.nsIn K mainGlobals "all" = some none)
    (z_enumerate : PySem.W.nsIn K mainGlobals "enumerate" = some none)
    (z_int : PySem.W.nsIn K mainGlobals "int" = some none)
    (z_isinstance : PySem.W.nsIn K mainGlobals "isinstance" = some none)
    (z_len : PySem.W.nsIn K mainGlobals "len" = some none)
    (z_list : PySem.W.nsIn K mainGlobals "list" = some none)
    (z_range : PySem.W.nsIn K mainGlobals "range" = some none)
    (z_repr : PySem.W.nsIn K mainGlobals "repr" = some none)
    (z_sum : PySem.W.nsIn K mainGlobals "sum" = some none)
    (z_zip : PySem.W.nsIn K mainGlobals "zip" = some none)
    (z_gcd : PySem.W.nsIn K mainGlobals "gcd" = some (some (.builtin "math.gcd")))
    (z_lcm : PySem.W.nsIn K mainGlobals "lcm" = some (some (.builtin "math.lcm")))
    (k_MOST_VARIABLES_program : PySem.W.nsIn K mainGlobals "MOST_VARIABLES_program" = some (some (.int 40 t_MOST_VARIABLES_program)))
    (k_MOST_ROWS : PySem.W.nsIn K mainGlobals "MOST_ROWS" = some (some (.int 80 t_MOST_ROWS)))
    (k_MOST_VARIABLES_bounds : PySem.W.nsIn K mainGlobals "MOST_VARIABLES_bounds" = some (some (.int 16 t_MOST_VARIABLES_bounds)))
    (aC_RELATIONS : PySem.W.nsIn K mainGlobals "RELATIONS" = some (some (.ref c_RELATIONS)))
    (l_RELATIONS : K.lookup c_RELATIONS = some ⟨oc_RELATIONS, od_RELATIONS, .seq it_RELATIONS sn_RELATIONS, sl_RELATIONS⟩)
    (v_RELATIONS : oc_RELATIONS = .type "tuple" ∧ it_RELATIONS.size ≤ sizeLine ∧ Vals ([PySem.Str.ofString "least", PySem.Str.ofString "most", PySem.Str.ofString "equal"].map V.str) it_RELATIONS.toList)
    : ∃ fd : FuncData, (∀ (s : Shared) (u : Value), BindsTo s fd ⟨[u], []⟩ [("script", u)]) ∧ ∀ base : Heap, K.In base → base.Ns mainGlobals mg → Z.RunAt P w K mg base (L2.CX P w) 10 fa fd ["script"] (spLaw K) := by
  have e := hfa.symm.trans (PySem.W.mg_of X G a_law)
  have e2 : f_law = fa := by cases e; rfl
  subst e2
  have F_WebError___init__ := fun_mk (st := s_WebError___init__) l_WebError___init__ cdw_WebError___init__ kp_WebError___init__
  have b_WebError___init__ := F_WebError___init__.binds (ps := ["self", "at"]) fun _ _ _ _ _ _ us hl => match us, hl with | [_, _], _ => rfl
  have F_fraction := fun_mk (st := s_fraction) l_fraction cdw_fraction kp_fraction
  have b_fraction := F_fraction.binds (ps := ["numerator", "denominator"]) fun _ _ _ _ _ _ us hl => match us, hl with | [_, _], _ => rfl
  have F_minus := fun_mk (st := s_minus) l_minus cdw_minus kp_minus
  have b_minus := F_minus.binds (ps := ["first", "second"]) fun _ _ _ _ _ _ us hl => match us, hl with | [_, _], _ => rfl
  have F_ceiling := fun_mk (st := s_ceiling) l_ceiling cdw_ceiling kp_ceiling
  have b_ceiling := F_ceiling.binds (ps := ["pair"]) fun _ _ _ _ _ _ us hl => match us, hl with | [_], _ => rfl
  have F_scaled := fun_mk (st := s_scaled) l_scaled cdw_scaled kp_scaled
  have b_scaled := F_scaled.binds (ps := ["fractions"]) fun _ _ _ _ _ _ us hl => match us, hl with | [_], _ => rfl
  have F_added := fun_mk (st := s_added) l_added cdw_added kp_added
  have b_added := F_added.binds (ps := ["fractions"]) fun _ _ _ _ _ _ us hl => match us, hl with | [_], _ => rfl
  have F_Program___init__ := fun_mk (st := s_Program___init__) l_Program___init__ cdw_Program___init__ kp_Program___init__
  have b_Program___init__ := F_Program___init__.binds (ps := ["self", "prices", "rows"]) fun _ _ _ _ _ _ us hl => match us, hl with | [_, _, _], _ => rfl
  have F_Program_count := fun_mk (st := s_Program_count) l_Program_count cdw_Program_count kp_Program_count
  have b_Program_count := F_Program_count.binds (ps := ["self"]) fun _ _ _ _ _ _ us hl => match us, hl with | [_], _ => rfl
  have F_Program_prices := fun_mk (st := s_Program_prices) l_Program_prices cdw_Program_prices kp_Program_prices
  have b_Program_prices := F_Program_prices.binds (ps := ["self"]) fun _ _ _ _ _ _ us hl => match us, hl with | [_], _ => rfl
  have F_Program_rows := fun_mk (st := s_Program_rows) l_Program_rows cdw_Program_rows kp_Program_rows
  have b_Program_rows := F_Program_rows.binds (ps := ["self"]) fun _ _ _ _ _ _ us hl => match us, hl with | [_], _ => rfl
  have F_dot := fun_mk (st := s_dot) l_dot cdw_dot kp_dot
  have b_dot := F_dot.binds (ps := ["numbers", "others"]) fun _ _ _ _ _ _ us hl => match us, hl with | [_, _], _ => rfl
  have F_is_fit := fun_mk (st := s_is_fit) l_is_fit cdw_is_fit kp_is_fit
  have b_is_fit := F_is_fit.binds (ps := ["relation", "multiplier"]) fun _ _ _ _ _ _ us hl => match us, hl with | [_, _], _ => rfl
  have F_are_fit := fun_mk (st := s_are_fit) l_are_fit cdw_are_fit kp_are_fit
  have b_are_fit := F_are_fit.binds (ps := ["program", "multipliers"]) fun _ _ _ _ _ _ us hl => match us, hl with | [_, _], _ => rfl
  have F_scaled_for := fun_mk (st := s_scaled_for) l_scaled_for cdw_scaled_for kp_scaled_for
  have b_scaled_for := F_scaled_for.binds (ps := ["rows", "multipliers"]) fun _ _ _ _ _ _ us hl => match us, hl with | [_, _], _ => rfl
  have F_loads := fun_mk (st := s_loads) l_loads cdw_loads kp_loads
  have b_loads := F_loads.binds (ps := ["program", "multipliers"]) fun _ _ _ _ _ _ us hl => match us, hl with | [_, _], _ => rfl
  have F_gain := fun_mk (st := s_gain) l_gain cdw_gain kp_gain
  have b_gain := F_gain.binds (ps := ["program", "multipliers"]) fun _ _ _ _ _ _ us hl => match us, hl with | [_, _], _ => rfl
  have F_need_few := fun_mk (st := s_need_few) l_need_few cdw_need_few kp_need_few
  have b_need_few := F_need_few.binds (ps := ["program"]) fun _ _ _ _ _ _ us hl => match us, hl with | [_], _ => rfl
  have F_need_fixing := fun_mk (st := s_need_fixing) l_need_fixing cdw_need_fixing kp_need_fixing
  have b_need_fixing := F_need_fixing.binds (ps := ["program", "fixing"]) fun _ _ _ _ _ _ us hl => match us, hl with | [_, _], _ => rfl
  have F_bound_with := fun_mk (st := s_bound_with) l_bound_with cdw_bound_with kp_bound_with
  have b_bound_with := F_bound_with.binds (ps := ["program", "prices", "fixing", "multipliers"]) fun _ _ _ _ _ _ us hl => match us, hl with | [_, _, _, _], _ => rfl
  have F_case_bound := fun_mk (st := s_case_bound) l_case_bound cdw_case_bound kp_case_bound
  have b_case_bound := F_case_bound.binds (ps := ["program", "fixing", "multipliers"]) fun _ _ _ _ _ _ us hl => match us, hl with | [_, _, _], _ => rfl
  have F_shows_none := fun_mk (st := s_shows_none) l_shows_none cdw_shows_none kp_shows_none
  have b_shows_none := F_shows_none.binds (ps := ["program", "fixing", "multipliers"]) fun _ _ _ _ _ _ us hl => match us, hl with | [_, _, _], _ => rfl
  have F_first_under := fun_mk (st := s_first_under) l_first_under cdw_first_under kp_first_under
  have b_first_under := F_first_under.binds (ps := ["fixing"]) fun _ _ _ _ _ _ us hl => match us, hl with | [_], _ => rfl
  have F_closes := fun_mk (st := s_closes) l_closes cdw_closes kp_closes
  have b_closes := F_closes.binds (ps := ["program", "fixing", "multipliers", "value", "told"]) fun _ _ _ _ _ _ us hl => match us, hl with | [_, _, _, _, _], _ => rfl
  have F_law_numbers := fun_mk (st := s_law_numbers) l_law_numbers cdw_law_numbers kp_law_numbers
  have b_law_numbers := F_law_numbers.binds (ps := ["script", "many"]) fun _ _ _ _ _ _ us hl => match us, hl with | [_, _], _ => rfl
  have F_law_lowest := fun_mk (st := s_law_lowest) l_law_lowest cdw_law_lowest kp_law_lowest
  have b_law_lowest := F_law_lowest.binds (ps := ["p", "q"]) fun _ _ _ _ _ _ us hl => match us, hl with | [_, _], _ => rfl
  have F_law_plus := fun_mk (st := s_law_plus) l_law_plus cdw_law_plus kp_law_plus
  have b_law_plus := F_law_plus.binds (ps := ["first", "second"]) fun _ _ _ _ _ _ us hl => match us, hl with | [_, _], _ => rfl
  have F_law_added := fun_mk (st := s_law_added) l_law_added cdw_law_added kp_law_added
  have b_law_added := F_law_added.binds (ps := ["rows"]) fun _ _ _ _ _ _ us hl => match us, hl with | [_], _ => rfl
  have F_law_weighted := fun_mk (st := s_law_weighted) l_law_weighted cdw_law_weighted kp_law_weighted
  have b_law_weighted := F_law_weighted.binds (ps := ["numbers", "values"]) fun _ _ _ _ _ _ us hl => match us, hl with | [_, _], _ => rfl
  have F_law_program := fun_mk (st := s_law_program) l_law_program cdw_law_program kp_law_program
  have b_law_program := F_law_program.binds (ps := ["numbers", "at", "most", "count"]) fun _ _ _ _ _ _ us hl => match us, hl with | [_, _, _, _], _ => rfl
  have F_law_good := fun_mk (st := s_law_good) l_law_good cdw_law_good kp_law_good
  have b_law_good := F_law_good.binds (ps := ["rows", "told"]) fun _ _ _ _ _ _ us hl => match us, hl with | [_, _], _ => rfl
  have F_law_lists := fun_mk (st := s_law_lists) l_law_lists cdw_law_lists kp_law_lists
  have b_law_lists := F_law_lists.binds (ps := ["many"]) fun _ _ _ _ _ _ us hl => match us, hl with | [_], _ => rfl
  have F_law_worth := fun_mk (st := s_law_worth) l_law_worth cdw_law_worth kp_law_worth
  have b_law_worth := F_law_worth.binds (ps := ["prices", "told"]) fun _ _ _ _ _ _ us hl => match us, hl with | [_, _], _ => rfl
  have F_law_fit := fun_mk (st := s_law_fit) l_law_fit cdw_law_fit kp_law_fit
  have b_law_fit := F_law_fit.binds (ps := ["rows", "weights"]) fun _ _ _ _ _ _ us hl => match us, hl with | [_, _], _ => rfl
  have F_law_bound := fun_mk (st := s_law_bound) l_law_bound cdw_law_bound kp_law_bound
  have b_law_bound := F_law_bound.binds (ps := ["prices", "rows", "fixing", "weights"]) fun _ _ _ _ _ _ us hl => match us, hl with | [_, _, _, _], _ => rfl
  have F_law_shows_none := fun_mk (st := s_law_shows_none) l_law_shows_none cdw_law_shows_none kp_law_shows_none
  have b_law_shows_none := F_law_shows_none.binds (ps := ["prices", "rows", "fixing", "weights"]) fun _ _ _ _ _ _ us hl => match us, hl with | [_, _, _, _], _ => rfl
  have F_law_closes := fun_mk (st := s_law_closes) l_law_closes cdw_law_closes kp_law_closes
  have b_law_closes := F_law_closes.binds (ps := ["prices", "rows", "fixing", "weights", "value", "told"]) fun _ _ _ _ _ _ us hl => match us, hl with | [_, _, _, _, _, _], _ => rfl
  have F_law_some := fun_mk (st := s_law_some) l_law_some cdw_law_some kp_law_some
  have b_law_some := F_law_some.binds (ps := ["numbers", "at", "k"]) fun _ _ _ _ _ _ us hl => match us, hl with | [_, _, _], _ => rfl
  have F_law_refused := fun_mk (st := s_law_refused) l_law_refused cdw_law_refused kp_law_refused
  have b_law_refused := F_law_refused.binds (ps := ["way", "program", "fixing", "weights"]) fun _ _ _ _ _ _ us hl => match us, hl with | [_, _, _, _], _ => rfl
  have F_law_refusals := fun_mk (st := s_law_refusals) l_law_refusals cdw_law_refusals kp_law_refusals
  have b_law_refusals := F_law_refusals.binds (ps := ["numbers", "program", "fixing", "weights"]) fun _ _ _ _ _ _ us hl => match us, hl with | [_, _, _, _], _ => rfl
  have F_law_true := fun_mk (st := s_law_true) l_law_true cdw_law_true kp_law_true
  have b_law_true := F_law_true.binds (ps := ["rows", "prices", "fixing", "weights", "value", "told"]) fun _ _ _ _ _ _ us hl => match us, hl with | [_, _, _, _, _, _], _ => rfl
  have F_law := fun_mk (st := s_law) l_law cdw_law kp_law
  have b_law := F_law.binds (ps := ["script"]) fun _ _ _ _ _ _ us hl => match us, hl with | [_], _ => rfl
  exact ⟨PySem.W.fnOf "law" "law" (defArgs s_law) (defBody s_law) (defScope s_law) .none kV_law dc_law pm_law an_law cd_law ct_law, fun s u => .of_eq rfl, fun base _ _ => ok_law (K := K) (mg := mg) {
    f_WebError___init__ := f_WebError___init__,
    fd_WebError___init__ := PySem.W.fnOf "__init__" "WebError.__init__" (defArgs s_WebError___init__) (defBody s_WebError___init__) (defScope s_WebError___init__) .none kV_WebError___init__ dc_WebError___init__ pm_WebError___init__ an_WebError___init__ cd_WebError___init__ ct_WebError___init__,
    F_WebError___init__ := F_WebError___init__,
    b_WebError___init__ := b_WebError___init__,
    f_fraction := f_fraction,
    fd_fraction := PySem.W.fnOf "fraction" "fraction" (defArgs s_fraction) (defBody s_fraction) (defScope s_fraction) .none kV_fraction dc_fraction pm_fraction an_fraction cd_fraction ct_fraction,
    F_fraction := F_fraction,
    b_fraction := b_fraction,
    g_fraction := PySem.W.mg_of X G a_fraction,
    f_minus := f_minus,
    fd_minus := PySem.W.fnOf "minus" "minus" (defArgs s_minus) (defBody s_minus) (defScope s_minus) .none kV_minus dc_minus pm_minus an_minus cd_minus ct_minus,
    F_minus := F_minus,
    b_minus := b_minus,
    g_minus := PySem.W.mg_of X G a_minus,
    f_ceiling := f_ceiling,
    fd_ceiling := PySem.W.fnOf "ceiling" "ceiling" (defArgs s_ceiling) (defBody s_ceiling) (defScope s_ceiling) .none kV_ceiling dc_ceiling pm_ceiling an_ceiling cd_ceiling ct_ceiling,
    F_ceiling := F_ceiling,
    b_ceiling := b_ceiling,
    g_ceiling := PySem.W.mg_of X G a_ceiling,
    f_scaled := f_scaled,
    fd_scaled := PySem.W.fnOf "scaled" "scaled" (defArgs s_scaled) (defBody s_scaled) (defScope s_scaled) .none kV_scaled dc_scaled pm_scaled an_scaled cd_scaled ct_scaled,
    F_scaled := F_scaled,
    b_scaled := b_scaled,
    g_scaled := PySem.W.mg_of X G a_scaled,
    f_added := f_added,
    fd_added := PySem.W.fnOf "added" "added" (defArgs s_added) (defBody s_added) (defScope s_added) .none kV_added dc_added pm_added an_added cd_added ct_added,
    F_added := F_added,
    b_added := b_added,
    g_added := PySem.W.mg_of X G a_added,
    f_Program___init__ := f_Program___init__,
    fd_Program___init__ := PySem.W.fnOf "__init__" "Program.__init__" (defArgs s_Program___init__) (defBody s_Program___init__) (defScope s_Program___init__) .none kV_Program___init__ dc_Program___init__ pm_Program___init__ an_Program___init__ cd_Program___init__ ct_Program___init__,
    F_Program___init__ := F_Program___init__,
    b_Program___init__ := b_Program___init__,
    f_Program_count := f_Program_count,
    fd_Program_count := PySem.W.fnOf "count" "Program.count" (defArgs s_Program_count) (defBody s_Program_count) (defScope s_Program_count) .none kV_Program_count dc_Program_count pm_Program_count an_Program_count cd_Program_count ct_Program_count,
    F_Program_count := F_Program_count,
    b_Program_count := b_Program_count,
    f_Program_prices := f_Program_prices,
    fd_Program_prices := PySem.W.fnOf "prices" "Program.prices" (defArgs s_Program_prices) (defBody s_Program_prices) (defScope s_Program_prices) .none kV_Program_prices dc_Program_prices pm_Program_prices an_Program_prices cd_Program_prices ct_Program_prices,
    F_Program_prices := F_Program_prices,
    b_Program_prices := b_Program_prices,
    f_Program_rows := f_Program_rows,
    fd_Program_rows := PySem.W.fnOf "rows" "Program.rows" (defArgs s_Program_rows) (defBody s_Program_rows) (defScope s_Program_rows) .none kV_Program_rows dc_Program_rows pm_Program_rows an_Program_rows cd_Program_rows ct_Program_rows,
    F_Program_rows := F_Program_rows,
    b_Program_rows := b_Program_rows,
    f_dot := f_dot,
    fd_dot := PySem.W.fnOf "dot" "dot" (defArgs s_dot) (defBody s_dot) (defScope s_dot) .none kV_dot dc_dot pm_dot an_dot cd_dot ct_dot,
    F_dot := F_dot,
    b_dot := b_dot,
    g_dot := PySem.W.mg_of X G a_dot,
    f_is_fit := f_is_fit,
    fd_is_fit := PySem.W.fnOf "is_fit" "is_fit" (defArgs s_is_fit) (defBody s_is_fit) (defScope s_is_fit) .none kV_is_fit dc_is_fit pm_is_fit an_is_fit cd_is_fit ct_is_fit,
    F_is_fit := F_is_fit,
    b_is_fit := b_is_fit,
    g_is_fit := PySem.W.mg_of X G a_is_fit,
    f_are_fit := f_are_fit,
    fd_are_fit := PySem.W.fnOf "are_fit" "are_fit" (defArgs s_are_fit) (defBody s_are_fit) (defScope s_are_fit) .none kV_are_fit dc_are_fit pm_are_fit an_are_fit cd_are_fit ct_are_fit,
    F_are_fit := F_are_fit,
    b_are_fit := b_are_fit,
    g_are_fit := PySem.W.mg_of X G a_are_fit,
    f_scaled_for := f_scaled_for,
    fd_scaled_for := PySem.W.fnOf "scaled_for" "scaled_for" (defArgs s_scaled_for) (defBody s_scaled_for) (defScope s_scaled_for) .none kV_scaled_for dc_scaled_for pm_scaled_for an_scaled_for cd_scaled_for ct_scaled_for,
    F_scaled_for := F_scaled_for,
    b_scaled_for := b_scaled_for,
    g_scaled_for := PySem.W.mg_of X G a_scaled_for,
    f_loads := f_loads,
    fd_loads := PySem.W.fnOf "loads" "loads" (defArgs s_loads) (defBody s_loads) (defScope s_loads) .none kV_loads dc_loads pm_loads an_loads cd_loads ct_loads,
    F_loads := F_loads,
    b_loads := b_loads,
    g_loads := PySem.W.mg_of X G a_loads,
    f_gain := f_gain,
    fd_gain := PySem.W.fnOf "gain" "gain" (defArgs s_gain) (defBody s_gain) (defScope s_gain) .none kV_gain dc_gain pm_gain an_gain cd_gain ct_gain,
    F_gain := F_gain,
    b_gain := b_gain,
    g_gain := PySem.W.mg_of X G a_gain,
    f_need_few := f_need_few,
    fd_need_few := PySem.W.fnOf "need_few" "need_few" (defArgs s_need_few) (defBody s_need_few) (defScope s_need_few) .none kV_need_few dc_need_few pm_need_few an_need_few cd_need_few ct_need_few,
    F_need_few := F_need_few,
    b_need_few := b_need_few,
    g_need_few := PySem.W.mg_of X G a_need_few,
    f_need_fixing := f_need_fixing,
    fd_need_fixing := PySem.W.fnOf "need_fixing" "need_fixing" (defArgs s_need_fixing) (defBody s_need_fixing) (defScope s_need_fixing) .none kV_need_fixing dc_need_fixing pm_need_fixing an_need_fixing cd_need_fixing ct_need_fixing,
    F_need_fixing := F_need_fixing,
    b_need_fixing := b_need_fixing,
    g_need_fixing := PySem.W.mg_of X G a_need_fixing,
    f_bound_with := f_bound_with,
    fd_bound_with := PySem.W.fnOf "bound_with" "bound_with" (defArgs s_bound_with) (defBody s_bound_with) (defScope s_bound_with) .none kV_bound_with dc_bound_with pm_bound_with an_bound_with cd_bound_with ct_bound_with,
    F_bound_with := F_bound_with,
    b_bound_with := b_bound_with,
    g_bound_with := PySem.W.mg_of X G a_bound_with,
    f_case_bound := f_case_bound,
    fd_case_bound := PySem.W.fnOf "case_bound" "case_bound" (defArgs s_case_bound) (defBody s_case_bound) (defScope s_case_bound) .none kV_case_bound dc_case_bound pm_case_bound an_case_bound cd_case_bound ct_case_bound,
    F_case_bound := F_case_bound,
    b_case_bound := b_case_bound,
    g_case_bound := PySem.W.mg_of X G a_case_bound,
    f_shows_none := f_shows_none,
    fd_shows_none := PySem.W.fnOf "shows_none" "shows_none" (defArgs s_shows_none) (defBody s_shows_none) (defScope s_shows_none) .none kV_shows_none dc_shows_none pm_shows_none an_shows_none cd_shows_none ct_shows_none,
    F_shows_none := F_shows_none,
    b_shows_none := b_shows_none,
    g_shows_none := PySem.W.mg_of X G a_shows_none,
    f_first_under := f_first_under,
    fd_first_under := PySem.W.fnOf "first_under" "first_under" (defArgs s_first_under) (defBody s_first_under) (defScope s_first_under) .none kV_first_under dc_first_under pm_first_under an_first_under cd_first_under ct_first_under,
    F_first_under := F_first_under,
    b_first_under := b_first_under,
    g_first_under := PySem.W.mg_of X G a_first_under,
    f_closes := f_closes,
    fd_closes := PySem.W.fnOf "closes" "closes" (defArgs s_closes) (defBody s_closes) (defScope s_closes) .none kV_closes dc_closes pm_closes an_closes cd_closes ct_closes,
    F_closes := F_closes,
    b_closes := b_closes,
    g_closes := PySem.W.mg_of X G a_closes,
    f_law_numbers := f_law_numbers,
    fd_law_numbers := PySem.W.fnOf "_law_numbers" "_law_numbers" (defArgs s_law_numbers) (defBody s_law_numbers) (defScope s_law_numbers) .none kV_law_numbers dc_law_numbers pm_law_numbers an_law_numbers cd_law_numbers ct_law_numbers,
    F_law_numbers := F_law_numbers,
    b_law_numbers := b_law_numbers,
    g_law_numbers := PySem.W.mg_of X G a_law_numbers,
    f_law_lowest := f_law_lowest,
    fd_law_lowest := PySem.W.fnOf "_law_lowest" "_law_lowest" (defArgs s_law_lowest) (defBody s_law_lowest) (defScope s_law_lowest) .none kV_law_lowest dc_law_lowest pm_law_lowest an_law_lowest cd_law_lowest ct_law_lowest,
    F_law_lowest := F_law_lowest,
    b_law_lowest := b_law_lowest,
    g_law_lowest := PySem.W.mg_of X G a_law_lowest,
    f_law_plus := f_law_plus,
    fd_law_plus := PySem.W.fnOf "_law_plus" "_law_plus" (defArgs s_law_plus) (defBody s_law_plus) (defScope s_law_plus) .none kV_law_plus dc_law_plus pm_law_plus an_law_plus cd_law_plus ct_law_plus,
    F_law_plus := F_law_plus,
    b_law_plus := b_law_plus,
    g_law_plus := PySem.W.mg_of X G a_law_plus,
    f_law_added := f_law_added,
    fd_law_added := PySem.W.fnOf "_law_added" "_law_added" (defArgs s_law_added) (defBody s_law_added) (defScope s_law_added) .none kV_law_added dc_law_added pm_law_added an_law_added cd_law_added ct_law_added,
    F_law_added := F_law_added,
    b_law_added := b_law_added,
    g_law_added := PySem.W.mg_of X G a_law_added,
    f_law_weighted := f_law_weighted,
    fd_law_weighted := PySem.W.fnOf "_law_weighted" "_law_weighted" (defArgs s_law_weighted) (defBody s_law_weighted) (defScope s_law_weighted) .none kV_law_weighted dc_law_weighted pm_law_weighted an_law_weighted cd_law_weighted ct_law_weighted,
    F_law_weighted := F_law_weighted,
    b_law_weighted := b_law_weighted,
    g_law_weighted := PySem.W.mg_of X G a_law_weighted,
    f_law_program := f_law_program,
    fd_law_program := PySem.W.fnOf "_law_program" "_law_program" (defArgs s_law_program) (defBody s_law_program) (defScope s_law_program) .none kV_law_program dc_law_program pm_law_program an_law_program cd_law_program ct_law_program,
    F_law_program := F_law_program,
    b_law_program := b_law_program,
    g_law_program := PySem.W.mg_of X G a_law_program,
    f_law_good := f_law_good,
    fd_law_good := PySem.W.fnOf "_law_good" "_law_good" (defArgs s_law_good) (defBody s_law_good) (defScope s_law_good) .none kV_law_good dc_law_good pm_law_good an_law_good cd_law_good ct_law_good,
    F_law_good := F_law_good,
    b_law_good := b_law_good,
    g_law_good := PySem.W.mg_of X G a_law_good,
    f_law_lists := f_law_lists,
    fd_law_lists := PySem.W.fnOf "_law_lists" "_law_lists" (defArgs s_law_lists) (defBody s_law_lists) (defScope s_law_lists) .none kV_law_lists dc_law_lists pm_law_lists an_law_lists cd_law_lists ct_law_lists,
    F_law_lists := F_law_lists,
    b_law_lists := b_law_lists,
    g_law_lists := PySem.W.mg_of X G a_law_lists,
    f_law_worth := f_law_worth,
    fd_law_worth := PySem.W.fnOf "_law_worth" "_law_worth" (defArgs s_law_worth) (defBody s_law_worth) (defScope s_law_worth) .none kV_law_worth dc_law_worth pm_law_worth an_law_worth cd_law_worth ct_law_worth,
    F_law_worth := F_law_worth,
    b_law_worth := b_law_worth,
    g_law_worth := PySem.W.mg_of X G a_law_worth,
    f_law_fit := f_law_fit,
    fd_law_fit := PySem.W.fnOf "_law_fit" "_law_fit" (defArgs s_law_fit) (defBody s_law_fit) (defScope s_law_fit) .none kV_law_fit dc_law_fit pm_law_fit an_law_fit cd_law_fit ct_law_fit,
    F_law_fit := F_law_fit,
    b_law_fit := b_law_fit,
    g_law_fit := PySem.W.mg_of X G a_law_fit,
    f_law_bound := f_law_bound,
    fd_law_bound := PySem.W.fnOf "_law_bound" "_law_bound" (defArgs s_law_bound) (defBody s_law_bound) (defScope s_law_bound) .none kV_law_bound dc_law_bound pm_law_bound an_law_bound cd_law_bound ct_law_bound,
    F_law_bound := F_law_bound,
    b_law_bound := b_law_bound,
    g_law_bound := PySem.W.mg_of X G a_law_bound,
    f_law_shows_none := f_law_shows_none,
    fd_law_shows_none := PySem.W.fnOf "_law_shows_none" "_law_shows_none" (defArgs s_law_shows_none) (defBody s_law_shows_none) (defScope s_law_shows_none) .none kV_law_shows_none dc_law_shows_none pm_law_shows_none an_law_shows_none cd_law_shows_none ct_law_shows_none,
    F_law_shows_none := F_law_shows_none,
    b_law_shows_none := b_law_shows_none,
    g_law_shows_none := PySem.W.mg_of X G a_law_shows_none,
    f_law_closes := f_law_closes,
    fd_law_closes := PySem.W.fnOf "_law_closes" "_law_closes" (defArgs s_law_closes) (defBody s_law_closes) (defScope s_law_closes) .none kV_law_closes dc_law_closes pm_law_closes an_law_closes cd_law_closes ct_law_closes,
    F_law_closes := F_law_closes,
    b_law_closes := b_law_closes,
    g_law_closes := PySem.W.mg_of X G a_law_closes,
    f_law_some := f_law_some,
    fd_law_some := PySem.W.fnOf "_law_some" "_law_some" (defArgs s_law_some) (defBody s_law_some) (defScope s_law_some) .none kV_law_some dc_law_some pm_law_some an_law_some cd_law_some ct_law_some,
    F_law_some := F_law_some,
    b_law_some := b_law_some,
    g_law_some := PySem.W.mg_of X G a_law_some,
    f_law_refused := f_law_refused,
    fd_law_refused := PySem.W.fnOf "_law_refused" "_law_refused" (defArgs s_law_refused) (defBody s_law_refused) (defScope s_law_refused) .none kV_law_refused dc_law_refused pm_law_refused an_law_refused cd_law_refused ct_law_refused,
    F_law_refused := F_law_refused,
    b_law_refused := b_law_refused,
    g_law_refused := PySem.W.mg_of X G a_law_refused,
    f_law_refusals := f_law_refusals,
    fd_law_refusals := PySem.W.fnOf "_law_refusals" "_law_refusals" (defArgs s_law_refusals) (defBody s_law_refusals) (defScope s_law_refusals) .none kV_law_refusals dc_law_refusals pm_law_refusals an_law_refusals cd_law_refusals ct_law_refusals,
    F_law_refusals := F_law_refusals,
    b_law_refusals := b_law_refusals,
    g_law_refusals := PySem.W.mg_of X G a_law_refusals,
    f_law_true := f_law_true,
    fd_law_true := PySem.W.fnOf "_law_true" "_law_true" (defArgs s_law_true) (defBody s_law_true) (defScope s_law_true) .none kV_law_true dc_law_true pm_law_true an_law_true cd_law_true ct_law_true,
    F_law_true := F_law_true,
    b_law_true := b_law_true,
    g_law_true := PySem.W.mg_of X G a_law_true,
    f_law := f_law,
    fd_law := PySem.W.fnOf "law" "law" (defArgs s_law) (defBody s_law) (defScope s_law) .none kV_law dc_law pm_law an_law cd_law ct_law,
    F_law := F_law,
    b_law := b_law,
    g_law := PySem.W.mg_of X G a_law,
    c_Program := c_Program,
    g_Program := PySem.W.mg_of X G aC_Program,
    cl_Program := ⟨pg_Program, hd_Program, po_Program, sa_Program⟩,
    mk_Program := ⟨mk_Program, a_Program___init__, i_Program___init__, kc_Program⟩,
    m_Program_count := ⟨a_Program_count, i_Program_count, kp_Program_count⟩,
    m_Program_prices := ⟨a_Program_prices, i_Program_prices, kp_Program_prices⟩,
    m_Program_rows := ⟨a_Program_rows, i_Program_rows, kp_Program_rows⟩,
    na_Program__prices := na_Program__prices,
    na_Program__rows := na_Program__rows,
    c_WebError := c_WebError,
    x_WebError := ⟨⟨⟨_, _, _, _, _, _, _, _, _, _, _, _, _, _, _, xL_WebError, rv_WebError⟩, sa_WebError, eC_WebError, tC_WebError, kC_WebError⟩, nb_WebError, in_WebError, ty_WebError___init__, PySem.W.mg_of X G aC_WebError⟩,
    e_WebError := ⟨ga_WebError, gg_WebError, eC_WebError, hC_WebError, cl_WebError, gt, tk, mr_WebError⟩,
    ef_WebError := ⟨ga_WebError, gg_WebError, eC_WebError, hC_WebError⟩,
    c_OutOfRange := c_OutOfRange,
    x_OutOfRange := ⟨⟨⟨_, _, _, _, _, _, _, _, _, _, _, _, _, _, _, xL_OutOfRange, rv_OutOfRange⟩, sa_OutOfRange, eC_OutOfRange, tC_OutOfRange, kC_OutOfRange⟩, nb_OutOfRange, in_OutOfRange, ty_WebError___init__, PySem.W.mg_of X G aC_OutOfRange⟩,
    e_OutOfRange := ⟨ga_OutOfRange, gg_OutOfRange, eC_OutOfRange, hC_OutOfRange, cl_OutOfRange, gt, tk, mr_OutOfRange⟩,
    ef_OutOfRange := ⟨ga_OutOfRange, gg_OutOfRange, eC_OutOfRange, hC_OutOfRange⟩,
    em_OutOfRange := Z.exm_of eC_WebError ib tC_WebError sb_OutOfRange,
    is_OutOfRange_OutOfRange := is_OutOfRange_OutOfRange,
    is_OutOfRange_TooMany := is_OutOfRange_TooMany,
    is_OutOfRange_ZeroDivisor := is_OutOfRange_ZeroDivisor,
    is_OutOfRange_BadRelation := is_OutOfRange_BadRelation,
    is_OutOfRange_WrongSize := is_OutOfRange_WrongSize,
    is_OutOfRange_BadFixing := is_OutOfRange_BadFixing,
    c_TooMany := c_TooMany,
    x_TooMany := ⟨⟨⟨_, _, _, _, _, _, _, _, _, _, _, _, _, _, _, xL_TooMany, rv_TooMany⟩, sa_TooMany, eC_TooMany, tC_TooMany, kC_TooMany⟩, nb_TooMany, in_TooMany, ty_WebError___init__, PySem.W.mg_of X G aC_TooMany⟩,
    e_TooMany := ⟨ga_TooMany, gg_TooMany, eC_TooMany, hC_TooMany, cl_TooMany, gt, tk, mr_TooMany⟩,
    ef_TooMany := ⟨ga_TooMany, gg_TooMany, eC_TooMany, hC_TooMany⟩,
    em_TooMany := Z.exm_of eC_WebError ib tC_WebError sb_TooMany,
    is_TooMany_OutOfRange := is_TooMany_OutOfRange,
    is_TooMany_TooMany := is_TooMany_TooMany,
    is_TooMany_ZeroDivisor := is_TooMany_ZeroDivisor,
    is_TooMany_BadRelation := is_TooMany_BadRelation,
    is_TooMany_WrongSize := is_TooMany_WrongSize,
    is_TooMany_BadFixing := is_TooMany_BadFixing,
    c_ZeroDivisor := c_ZeroDivisor,
    x_ZeroDivisor := ⟨⟨⟨_, _, _, _, _, _, _, _, _, _, _, _, _, _, _, xL_ZeroDivisor, rv_ZeroDivisor⟩, sa_ZeroDivisor, eC_ZeroDivisor, tC_ZeroDivisor, kC_ZeroDivisor⟩, nb_ZeroDivisor, in_ZeroDivisor, ty_WebError___init__, PySem.W.mg_of X G aC_ZeroDivisor⟩,
    e_ZeroDivisor := ⟨ga_ZeroDivisor, gg_ZeroDivisor, eC_ZeroDivisor, hC_ZeroDivisor, cl_ZeroDivisor, gt, tk, mr_ZeroDivisor⟩,
    ef_ZeroDivisor := ⟨ga_ZeroDivisor, gg_ZeroDivisor, eC_ZeroDivisor, hC_ZeroDivisor⟩,
    em_ZeroDivisor := Z.exm_of eC_WebError ib tC_WebError sb_ZeroDivisor,
    is_ZeroDivisor_OutOfRange := is_ZeroDivisor_OutOfRange,
    is_ZeroDivisor_TooMany := is_ZeroDivisor_TooMany,
    is_ZeroDivisor_ZeroDivisor := is_ZeroDivisor_ZeroDivisor,
    is_ZeroDivisor_BadRelation := is_ZeroDivisor_BadRelation,
    is_ZeroDivisor_WrongSize := is_ZeroDivisor_WrongSize,
    is_ZeroDivisor_BadFixing := is_ZeroDivisor_BadFixing,
    c_BadRelation := c_BadRelation,
    x_BadRelation := ⟨⟨⟨_, _, _, _, _, _, _, _, _, _, _, _, _, _, _, xL_BadRelation, rv_BadRelation⟩, sa_BadRelation, eC_BadRelation, tC_BadRelation, kC_BadRelation⟩, nb_BadRelation, in_BadRelation, ty_WebError___init__, PySem.W.mg_of X G aC_BadRelation⟩,
    e_BadRelation := ⟨ga_BadRelation, gg_BadRelation, eC_BadRelation, hC_BadRelation, cl_BadRelation, gt, tk, mr_BadRelation⟩,
    ef_BadRelation := ⟨ga_BadRelation, gg_BadRelation, eC_BadRelation, hC_BadRelation⟩,
    em_BadRelation := Z.exm_of eC_WebError ib tC_WebError sb_BadRelation,
    is_BadRelation_OutOfRange := is_BadRelation_OutOfRange,
    is_BadRelation_TooMany := is_BadRelation_TooMany,
    is_BadRelation_ZeroDivisor := is_BadRelation_ZeroDivisor,
    is_BadRelation_BadRelation := is_BadRelation_BadRelation,
    is_BadRelation_WrongSize := is_BadRelation_WrongSize,
    is_BadRelation_BadFixing := is_BadRelation_BadFixing,
    c_WrongSize := c_WrongSize,
    x_WrongSize := ⟨⟨⟨_, _, _, _, _, _, _, _, _, _, _, _, _, _, _, xL_WrongSize, rv_WrongSize⟩, sa_WrongSize, eC_WrongSize, tC_WrongSize, kC_WrongSize⟩, nb_WrongSize, in_WrongSize, ty_WebError___init__, PySem.W.mg_of X G aC_WrongSize⟩,
    e_WrongSize := ⟨ga_WrongSize, gg_WrongSize, eC_WrongSize, hC_WrongSize, cl_WrongSize, gt, tk, mr_WrongSize⟩,
    ef_WrongSize := ⟨ga_WrongSize, gg_WrongSize, eC_WrongSize, hC_WrongSize⟩,
    em_WrongSize := Z.exm_of eC_WebError ib tC_WebError sb_WrongSize,
    is_WrongSize_OutOfRange := is_WrongSize_OutOfRange,
    is_WrongSize_TooMany := is_WrongSize_TooMany,
    is_WrongSize_ZeroDivisor := is_WrongSize_ZeroDivisor,
    is_WrongSize_BadRelation := is_WrongSize_BadRelation,
    is_WrongSize_WrongSize := is_WrongSize_WrongSize,
    is_WrongSize_BadFixing := is_WrongSize_BadFixing,
    c_BadFixing := c_BadFixing,
    x_BadFixing := ⟨⟨⟨_, _, _, _, _, _, _, _, _, _, _, _, _, _, _, xL_BadFixing, rv_BadFixing⟩, sa_BadFixing, eC_BadFixing, tC_BadFixing, kC_BadFixing⟩, nb_BadFixing, in_BadFixing, ty_WebError___init__, PySem.W.mg_of X G aC_BadFixing⟩,
    e_BadFixing := ⟨ga_BadFixing, gg_BadFixing, eC_BadFixing, hC_BadFixing, cl_BadFixing, gt, tk, mr_BadFixing⟩,
    ef_BadFixing := ⟨ga_BadFixing, gg_BadFixing, eC_BadFixing, hC_BadFixing⟩,
    em_BadFixing := Z.exm_of eC_WebError ib tC_WebError sb_BadFixing,
    is_BadFixing_OutOfRange := is_BadFixing_OutOfRange,
    is_BadFixing_TooMany := is_BadFixing_TooMany,
    is_BadFixing_ZeroDivisor := is_BadFixing_ZeroDivisor,
    is_BadFixing_BadRelation := is_BadFixing_BadRelation,
    is_BadFixing_WrongSize := is_BadFixing_WrongSize,
    is_BadFixing_BadFixing := is_BadFixing_BadFixing,
    z_abs := PySem.W.mg_none_of X G z_abs,
    z_all := PySem.W.mg_none_of X G z_all,
    z_enumerate := PySem.W.mg_none_of X G z_enumerate,
    z_int := PySem.W.mg_none_of X G z_int,
    z_isinstance := PySem.W.mg_none_of X G z_isinstance,
    z_len := PySem.W.mg_none_of X G z_len,
    z_list := PySem.W.mg_none_of X G z_list,
    z_range := PySem.W.mg_none_of X G z_range,
    z_repr := PySem.W.mg_none_of X G z_repr,
    z_sum := PySem.W.mg_none_of X G z_sum,
    z_zip := PySem.W.mg_none_of X G z_zip,
    z_gcd := PySem.W.mg_of X G z_gcd,
    z_lcm := PySem.W.mg_of X G z_lcm,
    t_MOST_VARIABLES_program := t_MOST_VARIABLES_program,
    k_MOST_VARIABLES_program := PySem.W.mg_of X G k_MOST_VARIABLES_program,
    t_MOST_ROWS := t_MOST_ROWS,
    k_MOST_ROWS := PySem.W.mg_of X G k_MOST_ROWS,
    t_MOST_VARIABLES_bounds := t_MOST_VARIABLES_bounds,
    k_MOST_VARIABLES_bounds := PySem.W.mg_of X G k_MOST_VARIABLES_bounds,
    c_RELATIONS := c_RELATIONS,
    k_RELATIONS := PySem.W.mg_of X G aC_RELATIONS,
    q_RELATIONS := fun H => .inr ⟨_, _, _, l_RELATIONS, v_RELATIONS.1, rfl, v_RELATIONS.2.1, v_RELATIONS.2.2⟩ }⟩
theorem walk {l : PySem.W.OpenLaw} {q : Program} {loose : List Str} {XP : (Str → Option Value) → Heap → Prop} {YP : World → Heap → Prop} {d : DefRec} {K : Params → PySem.W.Frag} (hn : l.most = some 63) (hdf : d.params.defaults = [])
    (hY : ∀ (w : World) (h : Heap), YP w h → (K w.params).In h)
    (F : ∀ (w : World) (mg : Str → Option Value) (fa : Addr) (h : Heap), (K w.params).In h → h.Ns mainGlobals mg → mg d.name = some (.ref fa) →
      ∃ fd : FuncData, (∀ (s : Shared) (u : Value), BindsTo s fd ⟨[u], []⟩ [("script", u)]) ∧ ∀ base : Heap, (K w.params).In base → base.Ns mainGlobals mg → Z.RunAt l.prog w (K w.params) mg base (L2.CX l.prog w) 10 fa fd ["script"] (spLaw (K w.params))) :
    PySem.W.WalkO q loose XP YP l.row.toRowW d [] (fun f vs => PySem.call f vs) :=
  Z.walk_at (n := 63) (k := 10) (x := "script") (CX := fun w => L2.CX l.prog w) (sp := fun w => spLaw (K w.params)) hn (by decide) hdf ⟨rfl, by decide, by decide⟩ hY F
    (fun w H a ns hn hS => ⟨ns, H, [], hn, Z.Lay.nil, .cons ⟨a, rfl, hS⟩ .nil, fun G' H' v _ _ hv => by cases hv; rfl⟩)
    (fun w H s e s' z => by
      obtain ⟨_, _, _, _, _, _, _, _, _, _, _, _, z⟩ := z
      exact z)
end Q

set_option Elab.async false
open PySem PySem.W PyProof.Rows in
set_option maxRecDepth 100000 in
set_option maxHeartbeats 0 in
theorem PySem.Challenge.cw_trunkweb_k65_bounds_under_fixings_holds : PySem.Challenge.rw_trunkweb_k65_bounds_under_fixings.Holds := by
  w_on; o_law; k_head; (case hw => w_witness2)
  k_fill
  refine Q.walk (l := PySem.Challenge.rw_trunkweb_k65_bounds_under_fixings) rfl rfl (fun w h Y => PySem.W.kIn_of Y) ?F
  case F =>
    intro w mg fa h KX G hmg
    refine' Q.all_mk KX G hmg ?aC_Program ?aC_WebError ?aC_OutOfRange ?aC_TooMany ?aC_ZeroDivisor ?aC_BadRelation ?aC_WrongSize ?aC_BadFixing ?a_WebError___init__ ?ty_WebError___init__ ?l_WebError___init__ ?cdw_WebError___init__ ?kp_WebError___init__ ?a_fraction ?l_fraction ?cdw_fraction ?kp_fraction ?a_minus ?l_minus ?cdw_minus ?kp_minus ?a_ceiling ?l_ceiling ?cdw_ceiling ?kp_ceiling ?a_scaled ?l_scaled ?cdw_scaled ?kp_scaled ?a_added ?l_added ?cdw_added ?kp_added ?a_Program___init__ ?i_Program___init__ ?l_Program___init__ ?cdw_Program___init__ ?kp_Program___init__ ?a_Program_count ?i_Program_count ?l_Program_count ?cdw_Program_count ?kp_Program_count ?a_Program_prices ?i_Program_prices ?l_Program_prices ?cdw_Program_prices ?kp_Program_prices ?a_Program_rows ?i_Program_rows ?l_Program_rows ?cdw_Program_rows ?kp_Program_rows ?a_dot ?l_dot ?cdw_dot ?kp_dot ?a_is_fit ?l_is_fit ?cdw_is_fit ?kp_is_fit ?a_are_fit ?l_are_fit ?cdw_are_fit ?kp_are_fit ?a_scaled_for ?l_scaled_for ?cdw_scaled_for ?kp_scaled_for ?a_loads ?l_loads ?cdw_loads ?kp_loads ?a_gain ?l_gain ?cdw_gain ?kp_gain ?a_need_few ?l_need_few ?cdw_need_few ?kp_need_few ?a_need_fixing ?l_need_fixing ?cdw_need_fixing ?kp_need_fixing ?a_bound_with ?l_bound_with ?cdw_bound_with ?kp_bound_with ?a_case_bound ?l_case_bound ?cdw_case_bound ?kp_case_bound ?a_shows_none ?l_shows_none ?cdw_shows_none ?kp_shows_none ?a_first_under ?l_first_under ?cdw_first_under ?kp_first_under ?a_closes ?l_closes ?cdw_closes ?kp_closes ?a_law_numbers ?l_law_numbers ?cdw_law_numbers ?kp_law_numbers ?a_law_lowest ?l_law_lowest ?cdw_law_lowest ?kp_law_lowest ?a_law_plus ?l_law_plus ?cdw_law_plus ?kp_law_plus ?a_law_added ?l_law_added ?cdw_law_added ?kp_law_added ?a_law_weighted ?l_law_weighted ?cdw_law_weighted ?kp_law_weighted ?a_law_program ?l_law_program ?cdw_law_program ?kp_law_program ?a_law_good ?l_law_good ?cdw_law_good ?kp_law_good ?a_law_lists ?l_law_lists ?cdw_law_lists ?kp_law_lists ?a_law_worth ?l_law_worth ?cdw_law_worth ?kp_law_worth ?a_law_fit ?l_law_fit ?cdw_law_fit ?kp_law_fit ?a_law_bound ?l_law_bound ?cdw_law_bound ?kp_law_bound ?a_law_shows_none ?l_law_shows_none ?cdw_law_shows_none ?kp_law_shows_none ?a_law_closes ?l_law_closes ?cdw_law_closes ?kp_law_closes ?a_law_some ?l_law_some ?cdw_law_some ?kp_law_some ?a_law_refused ?l_law_refused ?cdw_law_refused ?kp_law_refused ?a_law_refusals ?l_law_refusals ?cdw_law_refusals ?kp_law_refusals ?a_law_true ?l_law_true ?cdw_law_true ?kp_law_true ?a_law ?l_law ?cdw_law ?kp_law ?pg_Program ?hd_Program ?po_Program ?sa_Program ?mk_Program ?kc_Program ?na_Program__prices ?na_Program__rows ?gt ?tk ?ib ?xL_WebError ?rv_WebError ?sa_WebError ?ga_WebError ?gg_WebError ?nb_WebError ?in_WebError ?eC_WebError ?tC_WebError ?hC_WebError ?kC_WebError ?cl_WebError ?mr_WebError ?xL_OutOfRange ?rv_OutOfRange ?sa_OutOfRange ?ga_OutOfRange ?gg_OutOfRange ?nb_OutOfRange ?in_OutOfRange ?eC_OutOfRange ?tC_OutOfRange ?hC_OutOfRange ?kC_OutOfRange ?cl_OutOfRange ?mr_OutOfRange ?sb_OutOfRange ?is_OutOfRange_OutOfRange ?is_OutOfRange_TooMany ?is_OutOfRange_ZeroDivisor ?is_OutOfRange_BadRelation ?is_OutOfRange_WrongSize ?is_OutOfRange_BadFixing ?xL_TooMany ?rv_TooMany ?sa_TooMany ?ga_TooMany ?gg_TooMany ?nb_TooMany ?in_TooMany ?eC_TooMany ?tC_TooMany ?hC_TooMany ?kC_TooMany ?cl_TooMany ?mr_TooMany ?sb_TooMany ?is_TooMany_OutOfRange ?is_TooMany_TooMany ?is_TooMany_ZeroDivisor ?is_TooMany_BadRelation ?is_TooMany_WrongSize ?is_TooMany_BadFixing ?xL_ZeroDivisor ?rv_ZeroDivisor ?sa_ZeroDivisor ?ga_ZeroDivisor ?gg_ZeroDivisor ?nb_ZeroDivisor ?in_ZeroDivisor ?eC_ZeroDivisor ?tC_ZeroDivisor ?hC_ZeroDivisor ?kC_ZeroDivisor ?cl_ZeroDivisor ?mr_ZeroDivisor ?sb_ZeroDivisor ?is_ZeroDivisor_OutOfRange ?is_ZeroDivisor_TooMany ?is_ZeroDivisor_ZeroDivisor ?is_ZeroDivisor_BadRelation ?is_ZeroDivisor_WrongSize ?is_ZeroDivisor_BadFixing ?xL_BadRelation ?rv_BadRelation ?sa_BadRelation ?ga_BadRelation ?gg_BadRelation ?nb_BadRelation ?in_BadRelation ?eC_BadRelation ?tC_BadRelation ?hC_BadRelation ?kC_BadRelation ?cl_BadRelation ?mr_BadRelation ?sb_BadRelation ?is_BadRelation_OutOfRange ?is_BadRelation_TooMany ?is_BadRelation_ZeroDivisor ?is_BadRelation_BadRelation ?is_BadRelation_WrongSize ?is_BadRelation_BadFixing ?xL_WrongSize ?rv_WrongSize ?sa_WrongSize ?ga_WrongSize ?gg_WrongSize ?nb_WrongSize ?in_WrongSize ?eC_WrongSize ?tC_WrongSize ?hC_WrongSize ?kC_WrongSize ?cl_WrongSize ?mr_WrongSize ?sb_WrongSize ?is_WrongSize_OutOfRange ?is_WrongSize_TooMany ?is_WrongSize_ZeroDivisor ?is_WrongSize_BadRelation ?is_WrongSize_WrongSize ?is_WrongSize_BadFixing ?xL_BadFixing ?rv_BadFixing ?sa_BadFixing ?ga_BadFixing ?gg_BadFixing ?nb_BadFixing ?in_BadFixing ?eC_BadFixing ?tC_BadFixing ?hC_BadFixing ?kC_BadFixing ?cl_BadFixing ?mr_BadFixing ?sb_BadFixing ?is_BadFixing_OutOfRange ?is_BadFixing_TooMany ?is_BadFixing_ZeroDivisor ?is_BadFixing_BadRelation ?is_BadFixing_WrongSize ?is_BadFixing_BadFixing ?z_abs ?z_all ?z_enumerate ?z_int ?z_isinstance ?z_len ?z_list ?z_range ?z_repr ?z_sum ?z_zip ?z_gcd ?z_lcm ?k_MOST_VARIABLES_program ?k_MOST_ROWS ?k_MOST_VARIABLES_bounds ?aC_RELATIONS ?l_RELATIONS ?v_RELATIONS
    (case aC_Program => k_is)
    (case aC_WebError => k_is)
    (case aC_OutOfRange => k_is)
    (case aC_TooMany => k_is)
    (case aC_ZeroDivisor => k_is)
    (case aC_BadRelation => k_is)
    (case aC_WrongSize => k_is)
    (case aC_BadFixing => k_is)
    (case a_WebError___init__ => k_is)
    (case ty_WebError___init__ => k_is)
    (case l_WebError___init__ => k_is)
    (case cdw_WebError___init__ => k_is)
    (case kp_WebError___init__ => k_is)
    (case a_fraction => k_is)
    (case l_fraction => k_is)
    (case cdw_fraction => k_is)
    (case kp_fraction => k_is)
    (case a_minus => k_is)
    (case l_minus => k_is)
    (case cdw_minus => k_is)
    (case kp_minus => k_is)
    (case a_ceiling => k_is)
    (case l_ceiling => k_is)
    (case cdw_ceiling => k_is)
    (case kp_ceiling => k_is)
    (case a_scaled => k_is)
    (case l_scaled => k_is)
    (case cdw_scaled => k_is)
    (case kp_scaled => k_is)
    (case a_added => k_is)
    (case l_added => k_is)
    (case cdw_added => k_is)
    (case kp_added => k_is)
    (case a_Program___init__ => k_is)
    (case i_Program___init__ => k_is)
    (case l_Program___init__ => k_is)
    (case cdw_Program___init__ => k_is)
    (case kp_Program___init__ => k_is)
    (case a_Program_count => k_is)
    (case i_Program_count => k_is)
    (case l_Program_count => k_is)
    (case cdw_Program_count => k_is)
    (case kp_Program_count => k_is)
    (case a_Program_prices => k_is)
    (case i_Program_prices => k_is)
    (case l_Program_prices => k_is)
    (case cdw_Program_prices => k_is)
    (case kp_Program_prices => k_is)
    (case a_Program_rows => k_is)
    (case i_Program_rows => k_is)
    (case l_Program_rows => k_is)
    (case cdw_Program_rows => k_is)
    (case kp_Program_rows => k_is)
    (case a_dot => k_is)
    (case l_dot => k_is)
    (case cdw_dot => k_is)
    (case kp_dot => k_is)
    (case a_is_fit => k_is)
    (case l_is_fit => k_is)
    (case cdw_is_fit => k_is)
    (case kp_is_fit => k_is)
    (case a_are_fit => k_is)
    (case l_are_fit => k_is)
    (case cdw_are_fit => k_is)
    (case kp_are_fit => k_is)
    (case a_scaled_for => k_is)
    (case l_scaled_for => k_is)
    (case cdw_scaled_for => k_is)
    (case kp_scaled_for => k_is)
    (case a_loads => k_is)
    (case l_loads => k_is)
    (case cdw_loads => k_is)
    (case kp_loads => k_is)
    (case a_gain => k_is)
    (case l_gain => k_is)
    (case cdw_gain => k_is)
    (case kp_gain => k_is)
    (case a_need_few => k_is)
    (case l_need_few => k_is)
    (case cdw_need_few => k_is)
    (case kp_need_few => k_is)
    (case a_need_fixing => k_is)
    (case l_need_fixing => k_is)
    (case cdw_need_fixing => k_is)
    (case kp_need_fixing => k_is)
    (case a_bound_with => k_is)
    (case l_bound_with => k_is)
    (case cdw_bound_with => k_is)
    (case kp_bound_with => k_is)
    (case a_case_bound => k_is)
    (case l_case_bound => k_is)
    (case cdw_case_bound => k_is)
    (case kp_case_bound => k_is)
    (case a_shows_none => k_is)
    (case l_shows_none => k_is)
    (case cdw_shows_none => k_is)
    (case kp_shows_none => k_is)
    (case a_first_under => k_is)
    (case l_first_under => k_is)
    (case cdw_first_under => k_is)
    (case kp_first_under => k_is)
    (case a_closes => k_is)
    (case l_closes => k_is)
    (case cdw_closes => k_is)
    (case kp_closes => k_is)
    (case a_law_numbers => k_is)
    (case l_law_numbers => k_is)
    (case cdw_law_numbers => k_is)
    (case kp_law_numbers => k_is)
    (case a_law_lowest => k_is)
    (case l_law_lowest => k_is)
    (case cdw_law_lowest => k_is)
    (case kp_law_lowest => k_is)
    (case a_law_plus => k_is)
    (case l_law_plus => k_is)
    (case cdw_law_plus => k_is)
    (case kp_law_plus => k_is)
    (case a_law_added => k_is)
    (case l_law_added => k_is)
    (case cdw_law_added => k_is)
    (case kp_law_added => k_is)
    (case a_law_weighted => k_is)
    (case l_law_weighted => k_is)
    (case cdw_law_weighted => k_is)
    (case kp_law_weighted => k_is)
    (case a_law_program => k_is)
    (case l_law_program => k_is)
    (case cdw_law_program => k_is)
    (case kp_law_program => k_is)
    (case a_law_good => k_is)
    (case l_law_good => k_is)
    (case cdw_law_good => k_is)
    (case kp_law_good => k_is)
    (case a_law_lists => k_is)
    (case l_law_lists => k_is)
    (case cdw_law_lists => k_is)
    (case kp_law_lists => k_is)
    (case a_law_worth => k_is)
    (case l_law_worth => k_is)
    (case cdw_law_worth => k_is)
    (case kp_law_worth => k_is)
    (case a_law_fit => k_is)
    (case l_law_fit => k_is)
    (case cdw_law_fit => k_is)
    (case kp_law_fit => k_is)
    (case a_law_bound => k_is)
    (case l_law_bound => k_is)
    (case cdw_law_bound => k_is)
    (case kp_law_bound => k_is)
    (case a_law_shows_none => k_is)
    (case l_law_shows_none => k_is)
    (case cdw_law_shows_none => k_is)
    (case kp_law_shows_none => k_is)
    (case a_law_closes => k_is)
    (case l_law_closes => k_is)
    (case cdw_law_closes => k_is)
    (case kp_law_closes => k_is)
    (case a_law_some => k_is)
    (case l_law_some => k_is)
    (case cdw_law_some => k_is)
    (case kp_law_some => k_is)
    (case a_law_refused => k_is)
    (case l_law_refused => k_is)
    (case cdw_law_refused => k_is)
    (case kp_law_refused => k_is)
    (case a_law_refusals => k_is)
    (case l_law_refusals => k_is)
    (case cdw_law_refusals => k_is)
    (case kp_law_refusals => k_is)
    (case a_law_true => k_is)
    (case l_law_true => k_is)
    (case cdw_law_true => k_is)
    (case kp_law_true => k_is)
    (case a_law => k_is)
    (case l_law => k_is)
    (case cdw_law => k_is)
    (case kp_law => k_is)
    (case pg_Program => k_is)
    (case hd_Program => k_is)
    (case po_Program => k_is)
    (case sa_Program => k_is)
    (case mk_Program => k_is)
    (case kc_Program => k_is)
    (case na_Program__prices => k_is)
    (case na_Program__rows => k_is)
    (case gt => k_is)
    (case tk => k_is)
    (case ib => k_is)
    (case xL_WebError => k_is)
    (case rv_WebError => first | rfl | decide +kernel)
    (case sa_WebError => k_is)
    (case ga_WebError => k_is)
    (case gg_WebError => k_is)
    (case nb_WebError => k_is)
    (case in_WebError => k_is)
    (case eC_WebError => k_is)
    (case tC_WebError => k_is)
    (case hC_WebError => k_is)
    (case kC_WebError => k_is)
    (case cl_WebError => k_is)
    (case mr_WebError => k_is)
    (case xL_OutOfRange => k_is)
    (case rv_OutOfRange => first | rfl | decide +kernel)
    (case sa_OutOfRange => k_is)
    (case ga_OutOfRange => k_is)
    (case gg_OutOfRange => k_is)
    (case nb_OutOfRange => k_is)
    (case in_OutOfRange => k_is)
    (case eC_OutOfRange => k_is)
    (case tC_OutOfRange => k_is)
    (case hC_OutOfRange => k_is)
    (case kC_OutOfRange => k_is)
    (case cl_OutOfRange => k_is)
    (case mr_OutOfRange => k_is)
    (case sb_OutOfRange => k_is)
    (case is_OutOfRange_OutOfRange => kit_is)
    (case is_OutOfRange_TooMany => kit_is)
    (case is_OutOfRange_ZeroDivisor => kit_is)
    (case is_OutOfRange_BadRelation => kit_is)
    (case is_OutOfRange_WrongSize => kit_is)
    (case is_OutOfRange_BadFixing => kit_is)
    (case xL_TooMany => k_is)
    (case rv_TooMany => first | rfl | decide +kernel)
    (case sa_TooMany => k_is)
    (case ga_TooMany => k_is)
    (case gg_TooMany => k_is)
    (case nb_TooMany => k_is)
    (case in_TooMany => k_is)
    (case eC_TooMany => k_is)
    (case tC_TooMany => k_is)
    (case hC_TooMany => k_is)
    (case kC_TooMany => k_is)
    (case cl_TooMany => k_is)
    (case mr_TooMany => k_is)
    (case sb_TooMany => k_is)
    (case is_TooMany_OutOfRange => kit_is)
    (case is_TooMany_TooMany => kit_is)
    (case is_TooMany_ZeroDivisor => kit_is)
    (case is_TooMany_BadRelation => kit_is)
    (case is_TooMany_WrongSize => kit_is)
    (case is_TooMany_BadFixing => kit_is)
    (case xL_ZeroDivisor => k_is)
    (case rv_ZeroDivisor => first | rfl | decide +kernel)
    (case sa_ZeroDivisor => k_is)
    (case ga_ZeroDivisor => k_is)
    (case gg_ZeroDivisor => k_is)
    (case nb_ZeroDivisor => k_is)
    (case in_ZeroDivisor => k_is)
    (case eC_ZeroDivisor => k_is)
    (case tC_ZeroDivisor => k_is)
    (case hC_ZeroDivisor => k_is)
    (case kC_ZeroDivisor => k_is)
    (case cl_ZeroDivisor => k_is)
    (case mr_ZeroDivisor => k_is)
    (case sb_ZeroDivisor => k_is)
    (case is_ZeroDivisor_OutOfRange => kit_is)
    (case is_ZeroDivisor_TooMany => kit_is)
    (case is_ZeroDivisor_ZeroDivisor => kit_is)
    (case is_ZeroDivisor_BadRelation => kit_is)
    (case is_ZeroDivisor_WrongSize => kit_is)
    (case is_ZeroDivisor_BadFixing => kit_is)
    (case xL_BadRelation => k_is)
    (case rv_BadRelation => first | rfl | decide +kernel)
    (case sa_BadRelation => k_is)
    (case ga_BadRelation => k_is)
    (case gg_BadRelation => k_is)
    (case nb_BadRelation => k_is)
    (case in_BadRelation => k_is)
    (case eC_BadRelation => k_is)
    (case tC_BadRelation => k_is)
    (case hC_BadRelation => k_is)
    (case kC_BadRelation => k_is)
    (case cl_BadRelation => k_is)
    (case mr_BadRelation => k_is)
    (case sb_BadRelation => k_is)
    (case is_BadRelation_OutOfRange => kit_is)
    (case is_BadRelation_TooMany => kit_is)
    (case is_BadRelation_ZeroDivisor => kit_is)
    (case is_BadRelation_BadRelation => kit_is)
    (case is_BadRelation_WrongSize => kit_is)
    (case is_BadRelation_BadFixing => kit_is)
    (case xL_WrongSize => k_is)
    (case rv_WrongSize => first | rfl | decide +kernel)
    (case sa_WrongSize => k_is)
    (case ga_WrongSize => k_is)
    (case gg_WrongSize => k_is)
    (case nb_WrongSize => k_is)
    (case in_WrongSize => k_is)
    (case eC_WrongSize => k_is)
    (case tC_WrongSize => k_is)
    (case hC_WrongSize => k_is)
    (case kC_WrongSize => k_is)
    (case cl_WrongSize => k_is)
    (case mr_WrongSize => k_is)
    (case sb_WrongSize => k_is)
    (case is_WrongSize_OutOfRange => kit_is)
    (case is_WrongSize_TooMany => kit_is)
    (case is_WrongSize_ZeroDivisor => kit_is)
    (case is_WrongSize_BadRelation => kit_is)
    (case is_WrongSize_WrongSize => kit_is)
    (case is_WrongSize_BadFixing => kit_is)
    (case xL_BadFixing => k_is)
    (case rv_BadFixing => first | rfl | decide +kernel)
    (case sa_BadFixing => k_is)
    (case ga_BadFixing => k_is)
    (case gg_BadFixing => k_is)
    (case nb_BadFixing => k_is)
    (case in_BadFixing => k_is)
    (case eC_BadFixing => k_is)
    (case tC_BadFixing => k_is)
    (case hC_BadFixing => k_is)
    (case kC_BadFixing => k_is)
    (case cl_BadFixing => k_is)
    (case mr_BadFixing => k_is)
    (case sb_BadFixing => k_is)
    (case is_BadFixing_OutOfRange => kit_is)
    (case is_BadFixing_TooMany => kit_is)
    (case is_BadFixing_ZeroDivisor => kit_is)
    (case is_BadFixing_BadRelation => kit_is)
    (case is_BadFixing_WrongSize => kit_is)
    (case is_BadFixing_BadFixing => kit_is)
    (case z_abs => k_is)
    (case z_all => k_is)
    (case z_enumerate => k_is)
    (case z_int => k_is)
    (case z_isinstance => k_is)
    (case z_len => k_is)
    (case z_list => k_is)
    (case z_range => k_is)
    (case z_repr => k_is)
    (case z_sum => k_is)
    (case z_zip => k_is)
    (case z_gcd => k_is)
    (case z_lcm => k_is)
    (case k_MOST_VARIABLES_program => k_is)
    (case k_MOST_ROWS => k_is)
    (case k_MOST_VARIABLES_bounds => k_is)
    (case aC_RELATIONS => k_is)
    (case l_RELATIONS => k_is)
    (case v_RELATIONS => exact ⟨rfl, by decide, .cons ⟨_, rfl⟩ (.cons ⟨_, rfl⟩ (.cons ⟨_, rfl⟩ (.nil)))⟩)

