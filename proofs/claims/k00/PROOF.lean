import PyProof.Rows.All
import HandS.ForMost
import HandS.Exc
import HandS.TryOnly
import HandS.ExcOwn
import HandS.ExcInit
import HandS.ExcField
import HandS.ExcIs
import HandS.WordsExc
import HandS.Wide
import KE.KExcIs
import PyProof.ReprRoads
import Wide.All
import OpenK.AllK
import Wide.FinOn
import PySem.Challenge.RW_trunkweb_k00_networks
set_option Elab.async false
set_option linter.all false
set_option maxRecDepth 100000
set_option maxHeartbeats 2000000
/-! Z: what a reading comes to, with the heap parted: G what stays, L the cells that are owned. -/
namespace Z
open PySem PySem.Spec PyProof.Rows L2

theorem perm_swap {α : Type} (a b c : List α) : (a ++ (b ++ c)).Perm (b ++ (a ++ c)) := by
  have h : ((a ++ b) ++ c).Perm ((b ++ a) ++ c) := (List.perm_append_comm).append_right c
  rw [List.append_assoc, List.append_assoc] at h
  exact h
abbrev Cell := Addr × HO
/-- H is G with the owned cells L beside -/
structure Lay (G : Hp) (L : List Cell) (H : Hp) : Prop where
  off : ∀ b, (∀ c ∈ L, c.1 ≠ b) → H b = G b
  on : ∀ c ∈ L, H c.1 = some c.2 ∧ G c.1 = none
  nd : (L.map (·.1)).Nodup
theorem Lay.same {G H : Hp} {L : List Cell} (l : Lay G L H) : Same G H := fun b o e => by
  rw [l.off b fun c hc z => ?_]
  · exact e
  · have := (l.on c hc).2
    rw [z, e] at this
    cases this
theorem Lay.fresh {G H : Hp} {L : List Cell} {p : Addr} (l : Lay G L H) (h : H p = none) : ∀ c ∈ L, c.1 ≠ p := fun c hc z => by
  have := (l.on c hc).1
  rw [z, h] at this
  cases this
theorem Lay.freshG {G H : Hp} {L : List Cell} {p : Addr} (l : Lay G L H) (h : H p = none) : G p = none := by
  rw [← l.off p (l.fresh h)]
  exact h
theorem Lay.perm {G H : Hp} {L L' : List Cell} (l : Lay G L H) (q : L.Perm L') : Lay G L' H :=
  ⟨fun b hb => l.off b fun c hc => hb c (q.mem_iff.mp hc), fun c hc => l.on c (q.mem_iff.mpr hc), (q.map _).nodup_iff.mp l.nd⟩
theorem Lay.nil {H : Hp} : Lay H [] H := ⟨fun _ _ => rfl, fun _ h => (by cases h), by simp⟩
theorem Lay.grow {G H : Hp} {L : List Cell} {p : Addr} {o : HO} (l : Lay G L H) (h : H p = none) : Lay (upd G p o) L (upd H p o) := by
  have f := l.fresh h
  refine ⟨fun b hb => ?_, fun c hc => ?_, l.nd⟩
  · by_cases e : b = p
    · rw [e, upd_same, upd_same]
    · rw [upd_ne e, upd_ne e]; exact l.off b hb
  · rw [upd_ne (f c hc), upd_ne (f c hc)]; exact l.on c hc
theorem Lay.cell {G H : Hp} {L : List Cell} {p : Addr} {o : HO} (l : Lay G L H) (h : H p = none) : Lay G ((p, o) :: L) (upd H p o) := by
  have f := l.fresh h
  refine ⟨fun b hb => ?_, fun c hc => ?_, ?_⟩
  · have e : b ≠ p := fun z => hb (p, o) (List.mem_cons_self ..) z.symm
    rw [upd_ne e]
    exact l.off b fun c hc => hb c (List.mem_cons_of_mem _ hc)
  · rcases List.mem_cons.mp hc with z | z
    · subst z; exact ⟨upd_same, l.freshG h⟩
    · rw [upd_ne (f c z)]; exact l.on c z
  · rw [List.map_cons, List.nodup_cons]
    refine ⟨fun z => ?_, l.nd⟩
    obtain ⟨c, hc, e⟩ := List.mem_map.mp z
    exact f c hc e
theorem Lay.ne {G H : Hp} {L : List Cell} {p : Addr} {o : HO} (l : Lay G ((p, o) :: L) H) : ∀ c ∈ L, c.1 ≠ p := fun c hc z => by
  have := l.nd
  rw [List.map_cons, List.nodup_cons] at this
  exact this.1 (List.mem_map.mpr ⟨c, hc, z⟩)
theorem Lay.store {G H : Hp} {L : List Cell} {p : Addr} {o u : HO} (l : Lay G ((p, o) :: L) H) : Lay G ((p, u) :: L) (upd H p u) := by
  have f := l.ne
  have l0 := l.on (p, o) (List.mem_cons_self ..)
  refine ⟨fun b hb => ?_, fun c hc => ?_, by have := l.nd; simpa using this⟩
  · have e : b ≠ p := fun z => hb (p, u) (List.mem_cons_self ..) z.symm
    rw [upd_ne e]
    refine l.off b fun c hc => ?_
    rcases List.mem_cons.mp hc with z | z
    · subst z; exact fun z => e z.symm
    · exact hb c (List.mem_cons_of_mem _ z)
  · rcases List.mem_cons.mp hc with z | z
    · subst z; exact ⟨upd_same, l0.2⟩
    · rw [upd_ne (f c z)]; exact l.on c (List.mem_cons_of_mem _ z)
theorem Lay.freeze {G H : Hp} {L : List Cell} {p : Addr} {o : HO} (l : Lay G ((p, o) :: L) H) : Lay (upd G p o) L H := by
  have f := l.ne
  have l0 := l.on (p, o) (List.mem_cons_self ..)
  refine ⟨fun b hb => ?_, fun c hc => ?_, ?_⟩
  · by_cases e : b = p
    · rw [e, upd_same]; exact l0.1
    · rw [upd_ne e]
      refine l.off b fun c hc => ?_
      rcases List.mem_cons.mp hc with z | z
      · subst z; exact fun z => e z.symm
      · exact hb c z
  · rw [upd_ne (f c hc)]; exact l.on c (List.mem_cons_of_mem _ hc)
  · have := l.nd
    rw [List.map_cons, List.nodup_cons] at this
    exact this.2
theorem same_upd {G : Hp} {p : Addr} {o : HO} (h : G p = none) : Same G (upd G p o) := fun b x e => by
  rw [upd_ne (ne_of_none e h)]; exact e
theorem Lay.freezeAll {G H : Hp} : ∀ {L M : List Cell}, Lay G (L ++ M) H → ∃ G', Same G G' ∧ Lay G' M H ∧ ∀ c ∈ L, G' c.1 = some c.2
  | [], M, l => ⟨G, Same.refl G, l, fun _ h => (by cases h)⟩
  | (p, o) :: L, M, l => by
    have hp := (l.on (p, o) (List.mem_cons_self ..)).2
    have l' : Lay (upd G p o) (L ++ M) H := Lay.freeze l
    obtain ⟨G', s, l'', k⟩ := Lay.freezeAll l'
    refine ⟨G', (same_upd hp).trans s, l'', fun c hc => ?_⟩
    rcases List.mem_cons.mp hc with z | z
    · subst z; exact s _ _ upd_same
    · exact k c z

/-- a new cell taken out again -/
theorem Lay.uncell {G H : Hp} {L : List Cell} {p : Addr} {o : HO} (l : Lay G ((p, o) :: L) H) : ∃ H', H' p = none ∧ H = upd H' p o ∧ Lay G L H' := by
  refine ⟨fun b => if b = p then none else H b, if_pos rfl, ?_, fun b hb => ?_, fun c hc => ?_, ?_⟩
  · funext b
    by_cases hb : b = p
    · rw [hb, upd_same]; exact (l.on _ (List.mem_cons_self ..)).1
    · rw [upd_ne hb, if_neg hb]
  · by_cases h : b = p
    · rw [h, if_pos rfl]; exact ((l.on _ (List.mem_cons_self ..)).2).symm
    · rw [if_neg h]
      refine l.off b fun c hc => ?_
      rcases List.mem_cons.mp hc with z | z
      · subst z; exact fun z => h z.symm
      · exact hb c z
  · rw [if_neg (l.ne c hc)]; exact l.on c (List.mem_cons_of_mem _ hc)
  · have := l.nd
    rw [List.map_cons, List.nodup_cons] at this
    exact this.2

/-! ### descriptions -/
/-- a value, by what stays true as the heap grows -/
structure Rp where
  p : Hp → V → Prop
  up : ∀ {H H' : Hp} {v : V}, Same H H' → p H v → p H' v
/-- an owned thing: its address, its cells -/
structure Op where
  p : Hp → Addr → List Cell → Prop
  up : ∀ {H H' : Hp} {a : Addr} {cs : List Cell}, Same H H' → p H a cs → p H' a cs
/-- a value that may stand in a cell of somebody's: G, the cells -/
structure Bw where
  p : Hp → List Cell → V → Prop
  up : ∀ {H H' : Hp} {L L' : List Cell} {v : V}, Same H H' → (∀ c ∈ L, c ∈ L') → p H L v → p H' L' v
def pu (R : Rp) : Bw := ⟨fun G _ v => R.p G v, fun e _ h => R.up e h⟩
inductive Sl where
  | x | p (R : Rp) | o (O : Op) | b (B : Bw)
inductive Slots (G : Hp) (L0 : List Cell) : L2.St → List Sl → List Cell → Prop
  | nil : Slots G L0 [] [] []
  | x {v σ ρ L} : Slots G L0 σ ρ L → Slots G L0 (v :: σ) (.x :: ρ) L
  | p {R : Rp} {v σ ρ L} : R.p G v → Slots G L0 σ ρ L → Slots G L0 (some v :: σ) (.p R :: ρ) L
  | o {O : Op} {a cs σ ρ L} : O.p G a cs → Slots G L0 σ ρ L → Slots G L0 (some (.ref a) :: σ) (.o O :: ρ) (cs ++ L)
  | b {B : Bw} {v σ ρ L} : B.p G L0 v → Slots G L0 σ ρ L → Slots G L0 (some v :: σ) (.b B :: ρ) L
theorem Slots.up {G G' : Hp} {L0 : List Cell} (e : Same G G') : ∀ {σ ρ L}, Slots G L0 σ ρ L → Slots G' L0 σ ρ L
  | _, _, _, .nil => .nil
  | _, _, _, .x s => .x (s.up e)
  | _, _, _, .p h s => .p (Rp.up _ e h) (s.up e)
  | _, _, _, .o h s => .o (Op.up _ e h) (s.up e)
  | _, _, _, .b h s => .b (Bw.up _ e (fun _ z => z) h) (s.up e)
theorem Slots.get_p {G : Hp} {L0 : List Cell} {R : Rp} : ∀ {σ ρ L} {i : Nat}, Slots G L0 σ ρ L → ρ[i]? = some (.p R) → ∃ v, σ[i]? = some (some v) ∧ R.p G v
  | _, _, _, _, .nil, h => by simp at h
  | _, _, _, 0, .x _, h => by simp at h
  | _, _, _, 0, .p q _, h => by simp at h; subst h; exact ⟨_, rfl, q⟩
  | _, _, _, 0, .o _ _, h => by simp at h
  | _, _, _, 0, .b _ _, h => by simp at h
  | _, _, _, i + 1, .b _ s, h => s.get_p (i := i) (by simpa using h)
  | _, _, _, i + 1, .x s, h => s.get_p (i := i) (by simpa using h)
  | _, _, _, i + 1, .p _ s, h => s.get_p (i := i) (by simpa using h)
  | _, _, _, i + 1, .o _ s, h => s.get_p (i := i) (by simpa using h)
/-- the slot i is set; what it owned is freed -/
theorem Slots.set_p {G : Hp} {L0 : List Cell} {R : Rp} {v : V} (q : R.p G v) : ∀ {σ ρ L} (i : Nat), Slots G L0 σ ρ L → ∃ C L', L.Perm (C ++ L') ∧ Slots G L0 (σ.set i (some v)) (ρ.set i (.p R)) L'
  | _, _, _, _, .nil => ⟨[], [], by simp, .nil⟩
  | _, _, _, 0, .x s => ⟨[], _, by simp, .p q s⟩
  | _, _, _, 0, .p _ s => ⟨[], _, by simp, .p q s⟩
  | _, _, _, 0, .b _ s => ⟨[], _, by simp, .p q s⟩
  | _, _, _, i + 1, .b h s => by
    obtain ⟨C, L', e, s'⟩ := s.set_p q i
    exact ⟨C, L', e, .b h s'⟩
  | _, _, _, 0, .o (cs := cs) _ s => ⟨cs, _, by simp, .p q s⟩
  | _, _, _, i + 1, .x s => by
    obtain ⟨C, L', e, s'⟩ := s.set_p q i
    exact ⟨C, L', e, .x s'⟩
  | _, _, _, i + 1, .p h s => by
    obtain ⟨C, L', e, s'⟩ := s.set_p q i
    exact ⟨C, L', e, .p h s'⟩
  | _, _, _, i + 1, .o (cs := cs) h s => by
    obtain ⟨C, L', e, s'⟩ := s.set_p q i
    refine ⟨C, cs ++ L', ?_, .o h s'⟩
    refine (e.append_left cs).trans ?_
    rw [← List.append_assoc, ← List.append_assoc]
    exact (List.perm_append_comm).append_right L'
theorem Slots.set_o {G : Hp} {L0 : List Cell} {O : Op} {a : Addr} {cs : List Cell} (q : O.p G a cs) : ∀ {σ ρ L} (i : Nat), i < σ.length → Slots G L0 σ ρ L → ∃ C L', L.Perm (C ++ L') ∧ ∃ L'', Slots G L0 (σ.set i (some (.ref a))) (ρ.set i (.o O)) L'' ∧ L''.Perm (cs ++ L')
  | _, _, _, _, h, .nil => by simp at h
  | _, _, _, 0, _, .x s => ⟨[], _, by simp, _, .o q s, .refl _⟩
  | _, _, _, 0, _, .p _ s => ⟨[], _, by simp, _, .o q s, .refl _⟩
  | _, _, _, 0, _, .b _ s => ⟨[], _, by simp, _, .o q s, .refl _⟩
  | _, _, _, i + 1, h, .b h1 s => by
    obtain ⟨C, L', e, L'', s', e'⟩ := s.set_o q i (by simpa using h)
    exact ⟨C, L', e, L'', .b h1 s', e'⟩
  | _, _, _, 0, _, .o (cs := ds) _ s => ⟨ds, _, by simp, _, .o q s, .refl _⟩
  | _, _, _, i + 1, h, .x s => by
    obtain ⟨C, L', e, L'', s', e'⟩ := s.set_o q i (by simpa using h)
    exact ⟨C, L', e, L'', .x s', e'⟩
  | _, _, _, i + 1, h, .p h1 s => by
    obtain ⟨C, L', e, L'', s', e'⟩ := s.set_o q i (by simpa using h)
    exact ⟨C, L', e, L'', .p h1 s', e'⟩
  | _, _, _, i + 1, h, .o (cs := ds) h1 s => by
    obtain ⟨C, L', e, L'', s', e'⟩ := s.set_o q i (by simpa using h)
    refine ⟨C, ds ++ L', ?_, ds ++ L'', .o h1 s', ?_⟩
    · refine (e.append_left ds).trans ?_
      rw [← List.append_assoc, ← List.append_assoc]
      exact (List.perm_append_comm).append_right L'
    · refine (e'.append_left ds).trans ?_
      rw [← List.append_assoc, ← List.append_assoc]
      exact (List.perm_append_comm).append_right L'
/-- the owned thing at slot i, and how it may change -/
theorem Slots.get_o {G : Hp} {L0 : List Cell} {O : Op} : ∀ {σ ρ L} {i : Nat}, Slots G L0 σ ρ L → ρ[i]? = some (.o O) → ∃ a cs M, σ[i]? = some (some (.ref a)) ∧ O.p G a cs ∧ L.Perm (cs ++ M) ∧
    (∀ (O' : Op) (cs' : List Cell), O'.p G a cs' → ∃ L', Slots G L0 σ (ρ.set i (.o O')) L' ∧ L'.Perm (cs' ++ M)) ∧ (∀ (G' : Hp) (R : Rp), Same G G' → R.p G' (.ref a) → Slots G' L0 σ (ρ.set i (.p R)) M)
  | _, _, _, _, .nil, h => by simp at h
  | _, _, _, 0, .x _, h => by simp at h
  | _, _, _, 0, .p _ _, h => by simp at h
  | _, _, _, 0, .b _ _, h => by simp at h
  | _, _, _, i + 1, .b q s, h => by
    obtain ⟨a, cs, M, h1, h2, h3, h4, h5⟩ := s.get_o (i := i) (by simpa using h)
    exact ⟨a, cs, M, by simpa using h1, h2, h3, fun O' cs' q' => by
      obtain ⟨L', s', e⟩ := h4 O' cs' q'
      exact ⟨L', .b q s', e⟩, fun G' R e r => .b (Bw.up _ e (fun _ z => z) q) (h5 G' R e r)⟩
  | _, _, _, 0, .o (a := a) (cs := cs) (L := M) q s, h => by
    simp at h; subst h
    exact ⟨a, cs, M, rfl, q, .refl _, fun O' cs' q' => ⟨_, .o q' s, .refl _⟩, fun G' R e r => .p r (s.up e)⟩
  | _, _, _, i + 1, .x s, h => by
    obtain ⟨a, cs, M, h1, h2, h3, h4, h5⟩ := s.get_o (i := i) (by simpa using h)
    exact ⟨a, cs, M, by simpa using h1, h2, h3, fun O' cs' q' => by
      obtain ⟨L', s', e⟩ := h4 O' cs' q'
      exact ⟨L', .x s', e⟩, fun G' R e r => .x (h5 G' R e r)⟩
  | _, _, _, i + 1, .p q s, h => by
    obtain ⟨a, cs, M, h1, h2, h3, h4, h5⟩ := s.get_o (i := i) (by simpa using h)
    exact ⟨a, cs, M, by simpa using h1, h2, h3, fun O' cs' q' => by
      obtain ⟨L', s', e⟩ := h4 O' cs' q'
      exact ⟨L', .p q s', e⟩, fun G' R e r => .p (Rp.up _ e q) (h5 G' R e r)⟩
  | _, _, _, i + 1, .o (cs := ds) q s, h => by
    obtain ⟨a, cs, M, h1, h2, h3, h4, h5⟩ := s.get_o (i := i) (by simpa using h)
    refine ⟨a, cs, ds ++ M, by simpa using h1, h2, ?_, fun O' cs' q' => ?_, fun G' R e r => .o (Op.up _ e q) (h5 G' R e r)⟩
    · refine (h3.append_left ds).trans ?_
      rw [← List.append_assoc, ← List.append_assoc]
      exact (List.perm_append_comm).append_right M
    · obtain ⟨L', s', e⟩ := h4 O' cs' q'
      refine ⟨ds ++ L', .o q s', ?_⟩
      refine (e.append_left ds).trans ?_
      rw [← List.append_assoc, ← List.append_assoc]
      exact (List.perm_append_comm).append_right M
theorem Slots.len {G : Hp} {L0 : List Cell} : ∀ {σ ρ L}, Slots G L0 σ ρ L → σ.length = ρ.length
  | _, _, _, .nil => rfl
  | _, _, _, .x s => by simp [s.len]
  | _, _, _, .p _ s => by simp [s.len]
  | _, _, _, .o _ s => by simp [s.len]
  | _, _, _, .b _ s => by simp [s.len]

theorem Slots.get_b {G : Hp} {L0 : List Cell} {B : Bw} : ∀ {σ ρ L} {i : Nat}, Slots G L0 σ ρ L → ρ[i]? = some (.b B) → ∃ v, σ[i]? = some (some v) ∧ B.p G L0 v
  | _, _, _, _, .nil, h => by simp at h
  | _, _, _, 0, .x _, h => by simp at h
  | _, _, _, 0, .p q _, h => by simp at h
  | _, _, _, 0, .o _ _, h => by simp at h
  | _, _, _, 0, .b q _, h => by simp at h; subst h; exact ⟨_, rfl, q⟩
  | _, _, _, i + 1, .b _ s, h => s.get_b (i := i) (by simpa using h)
  | _, _, _, i + 1, .x s, h => s.get_b (i := i) (by simpa using h)
  | _, _, _, i + 1, .p _ s, h => s.get_b (i := i) (by simpa using h)
  | _, _, _, i + 1, .o _ s, h => s.get_b (i := i) (by simpa using h)
/-- less is told -/
inductive Wk : List Sl → List Sl → Prop
  | nil : Wk [] []
  | x {s ρ ρ'} : Wk ρ ρ' → Wk (s :: ρ) (.x :: ρ')
  | k {s ρ ρ'} : Wk ρ ρ' → Wk (s :: ρ) (s :: ρ')
theorem Wk.refl : ∀ ρ, Wk ρ ρ
  | [] => .nil
  | _ :: ρ => .k (Wk.refl ρ)
theorem Slots.weak {G : Hp} {L0 : List Cell} : ∀ {σ ρ ρ' L}, Slots G L0 σ ρ L → Wk ρ ρ' → ∃ C L', L.Perm (C ++ L') ∧ Slots G L0 σ ρ' L'
  | _, _, _, _, .nil, .nil => ⟨[], [], by simp, .nil⟩
  | _, _, _, _, .x s, .x w | _, _, _, _, .x s, .k w => by
    obtain ⟨C, L', e, s'⟩ := s.weak w
    exact ⟨C, L', e, .x s'⟩
  | _, _, _, _, .p h s, .x w | _, _, _, _, .b h s, .x w => by
    obtain ⟨C, L', e, s'⟩ := s.weak w
    exact ⟨C, L', e, .x s'⟩
  | _, _, _, _, .p h s, .k w => by
    obtain ⟨C, L', e, s'⟩ := s.weak w
    exact ⟨C, L', e, .p h s'⟩
  | _, _, _, _, .b h s, .k w => by
    obtain ⟨C, L', e, s'⟩ := s.weak w
    exact ⟨C, L', e, .b h s'⟩
  | _, _, _, _, .o (cs := cs) h s, .x w => by
    obtain ⟨C, L', e, s'⟩ := s.weak w
    refine ⟨cs ++ C, L', ?_, .x s'⟩
    rw [List.append_assoc]
    exact e.append_left cs
  | _, _, _, _, .o (cs := cs) h s, .k w => by
    obtain ⟨C, L', e, s'⟩ := s.weak w
    exact ⟨C, cs ++ L', (e.append_left cs).trans (perm_swap _ _ _), .o h s'⟩

/-- the state: G, the slots, the callers' cells L0 -/
def Stt (G : Hp) (ρ : List Sl) (σ : L2.St) (L0 : List Cell) (H : Hp) : Prop := ∃ L, Slots G L0 σ ρ L ∧ Lay G (L ++ L0) H
section
variable {G H : Hp} {ρ : List Sl} {σ : L2.St} {L0 : List Cell}
theorem Stt.same (s : Stt G ρ σ L0 H) : Same G H := by
  obtain ⟨L, _, l⟩ := s
  exact l.same
theorem Stt.len (s : Stt G ρ σ L0 H) : σ.length = ρ.length := by
  obtain ⟨L, h, _⟩ := s
  exact h.len
theorem Stt.get_p (s : Stt G ρ σ L0 H) {R : Rp} {i : Nat} (h : ρ[i]? = some (.p R)) : ∃ v, σ[i]? = some (some v) ∧ R.p G v := by
  obtain ⟨L, q, _⟩ := s
  exact q.get_p h
theorem Stt.get_b (s : Stt G ρ σ L0 H) {B : Bw} {i : Nat} (h : ρ[i]? = some (.b B)) : ∃ v, σ[i]? = some (some v) ∧ B.p G L0 v := by
  obtain ⟨L, q, _⟩ := s
  exact q.get_b h
theorem Stt.weak (s : Stt G ρ σ L0 H) {ρ' : List Sl} (w : Wk ρ ρ') : ∃ G', Same G G' ∧ Stt G' ρ' σ L0 H := by
  obtain ⟨L, q, l⟩ := s
  obtain ⟨C, L', e, q'⟩ := q.weak w
  have l' : Lay G (C ++ (L' ++ L0)) H := by
    rw [← List.append_assoc]
    exact l.perm (e.append_right L0)
  obtain ⟨G', e', l'', _⟩ := l'.freezeAll
  exact ⟨G', e', L', q'.up e', l''⟩
theorem Stt.fin (s : Stt G ρ σ L0 H) : ∃ G', Same G G' ∧ Lay G' L0 H := by
  obtain ⟨L, q, l⟩ := s
  obtain ⟨G', e', l'', _⟩ := l.freezeAll
  exact ⟨G', e', l''⟩
theorem Stt.grow (s : Stt G ρ σ L0 H) {p : Addr} {o : HO} (h : H p = none) : Same G (upd G p o) ∧ Stt (upd G p o) ρ σ L0 (upd H p o) := by
  obtain ⟨L, q, l⟩ := s
  have e := same_upd (o := o) (l.freshG h)
  exact ⟨e, L, q.up e, l.grow h⟩
theorem Stt.set_p (s : Stt G ρ σ L0 H) {R : Rp} {v : V} (r : R.p G v) (i : Nat) : ∃ G', Same G G' ∧ Stt G' (ρ.set i (.p R)) (σ.set i (some v)) L0 H := by
  obtain ⟨L, q, l⟩ := s
  obtain ⟨C, L', e, q'⟩ := q.set_p r i
  have l' : Lay G (C ++ (L' ++ L0)) H := by
    rw [← List.append_assoc]
    exact l.perm (e.append_right L0)
  obtain ⟨G', e', l'', _⟩ := l'.freezeAll
  exact ⟨G', e', L', q'.up e', l''⟩
/-- a new owned thing, its cells already laid beside -/
theorem Stt.set_o (s : Stt G ρ σ L0 H) {O : Op} {a : Addr} {cs : List Cell} {H' : Hp} (r : O.p G a cs) (i : Nat) (hi : i < ρ.length) (hl : ∀ M, Lay G M H → Lay G (cs ++ M) H') : ∃ G', Same G G' ∧ Stt G' (ρ.set i (.o O)) (σ.set i (some (.ref a))) L0 H' := by
  obtain ⟨L, q, l⟩ := s
  obtain ⟨C, L', e, L'', q', e'⟩ := q.set_o r i (by rw [q.len]; exact hi)
  have l1 : Lay G (cs ++ (C ++ (L' ++ L0))) H' := hl _ (by
    rw [← List.append_assoc]
    exact l.perm (e.append_right L0))
  have l2 : Lay G (C ++ (L'' ++ L0)) H' := l1.perm (by
    refine (perm_swap _ _ _).trans (List.Perm.append_left C ?_)
    rw [← List.append_assoc]
    exact (e'.symm).append_right L0)
  obtain ⟨G', e3, l3, _⟩ := l2.freezeAll
  exact ⟨G', e3, L'', q'.up e3, l3⟩
theorem Stt.get_o (s : Stt G ρ σ L0 H) {O : Op} {i : Nat} (h : ρ[i]? = some (.o O)) : ∃ a cs, σ[i]? = some (some (.ref a)) ∧ O.p G a cs ∧ (∀ c ∈ cs, H c.1 = some c.2) ∧
    (∀ (O' : Op) (cs' : List Cell) (H' : Hp), O'.p G a cs' → (∀ M, Lay G (cs ++ M) H → Lay G (cs' ++ M) H') → Stt G (ρ.set i (.o O')) σ L0 H') ∧
    (∀ (R : Rp), (∀ G', Same G G' → (∀ c ∈ cs, G' c.1 = some c.2) → R.p G' (.ref a)) → ∃ G', Same G G' ∧ Stt G' (ρ.set i (.p R)) σ L0 H) := by
  obtain ⟨L, q, l⟩ := s
  obtain ⟨a, cs, M, h1, h2, h3, h4, h5⟩ := q.get_o h
  have l1 : Lay G (cs ++ (M ++ L0)) H := by
    rw [← List.append_assoc]
    exact l.perm (h3.append_right L0)
  refine ⟨a, cs, h1, h2, fun c hc => (l1.on c (List.mem_append_left _ hc)).1, fun O' cs' H' q' hl => ?_, fun R hR => ?_⟩
  · obtain ⟨L', s', e⟩ := h4 O' cs' q'
    refine ⟨L', s', (hl _ l1).perm ?_⟩
    rw [← List.append_assoc]
    exact (e.symm).append_right L0
  · obtain ⟨G', e', l'', k⟩ := l1.freezeAll
    exact ⟨G', e', M, h5 G' R e' (hR G' e' k), l''⟩
end
end Z

set_option Elab.async false
set_option linter.all false
set_option maxRecDepth 100000
set_option maxHeartbeats 2000000
/-! Zb: data, what an expression, a test, a statement comes to. -/
namespace Z
open PySem PySem.Spec PyProof.Rows L2
section
variable {K : PySem.W.Frag}
theorem sqT_up {H H' : Hp} {a : Addr} {xs : List V} (e : Same H H') (h : SqT K H a xs) : SqT K H' a xs := by
  rcases h with (h | ⟨o, h⟩) | h
  · exact .inl (.inl (e _ _ h))
  · exact .inl (.inr ⟨o, e _ _ h⟩)
  · exact .inr h
mutual
/-- data at a value: every list and tuple stands in H -/
inductive Dq (H : Hp) : V → PyData → Prop
  | non : Dq H .non .none
  | bl (b : Bool) : Dq H (.bl b) (.bool b)
  | int (i : Int) : Dq H (.int i) (.int i)
  | str (x : Str) : Dq H (.str x) (.str x)
  | lst {a : Addr} {xs : List V} {ds : List PyData} : H a = some (.lst xs) → DqAll H xs ds → Dq H (.ref a) (.list ds)
  | tup {a : Addr} {xs : List V} {ds : List PyData} : H a = some (.tup xs) → DqAll H xs ds → Dq H (.ref a) (.tuple ds)
inductive DqAll (H : Hp) : List V → List PyData → Prop
  | nil : DqAll H [] []
  | cons {v : V} {vs : List V} {d : PyData} {ds : List PyData} : Dq H v d → DqAll H vs ds → DqAll H (v :: vs) (d :: ds)
end
mutual
theorem dp_up {H H' : Hp} (e : Same H H') : ∀ {v : V} {d : PyData}, Dq H v d → Dq H' v d
  | _, _, .non => .non
  | _, _, .bl b => .bl b
  | _, _, .int i => .int i
  | _, _, .str x => .str x
  | _, _, .lst h a => .lst (e _ _ h) (dpAll_up e a)
  | _, _, .tup h a => .tup (e _ _ h) (dpAll_up e a)
theorem dpAll_up {H H' : Hp} (e : Same H H') : ∀ {vs : List V} {ds : List PyData}, DqAll H vs ds → DqAll H' vs ds
  | _, _, .nil => .nil
  | _, _, .cons h t => .cons (dp_up e h) (dpAll_up e t)
end
mutual
theorem dq_dp {H : Hp} : ∀ {v : V} {d : PyData}, Dq H v d → L2.Dp K H v d
  | _, _, .non => .non
  | _, _, .bl b => .bl b
  | _, _, .int i => .int i
  | _, _, .str x => .str x
  | _, _, .lst h a => .lst (.inl (.inl h)) (dqAll_dp a)
  | _, _, .tup h a => .tup (.inl (.inl h)) (dqAll_dp a)
theorem dqAll_dp {H : Hp} : ∀ {vs : List V} {ds : List PyData}, DqAll H vs ds → L2.DpAll K H vs ds
  | _, _, .nil => .nil
  | _, _, .cons h t => .cons (dq_dp h) (dqAll_dp t)
end
theorem dpAll_len {H : Hp} : ∀ {vs : List V} {ds : List PyData}, DqAll H vs ds → vs.length = ds.length
  | _, _, .nil => rfl
  | _, _, .cons _ t => by simp [dpAll_len t]
theorem dpAll_get {H : Hp} : ∀ {vs : List V} {ds : List PyData} {i : Nat} {d : PyData}, DqAll H vs ds → ds[i]? = some d → ∃ v, vs[i]? = some v ∧ Dq H v d
  | _, _, _, _, .nil, h => by simp at h
  | _, _, 0, _, .cons q _, h => by simp at h; subst h; exact ⟨_, rfl, q⟩
  | _, _, i + 1, _, .cons _ t, h => by simpa using dpAll_get (i := i) t (by simpa using h)
theorem dpAll_get' {H : Hp} : ∀ {vs : List V} {ds : List PyData} {i : Nat} {v : V}, DqAll H vs ds → vs[i]? = some v → ∃ d, ds[i]? = some d ∧ Dq H v d
  | _, _, _, _, .nil, h => by simp at h
  | _, _, 0, _, .cons q _, h => by simp at h; subst h; exact ⟨_, rfl, q⟩
  | _, _, i + 1, _, .cons _ t, h => by simpa using dpAll_get' (i := i) t (by simpa using h)
theorem dpAll_app {H : Hp} : ∀ {vs ws : List V} {ds es : List PyData}, DqAll H vs ds → DqAll H ws es → DqAll H (vs ++ ws) (ds ++ es)
  | _, _, _, _, .nil, s => s
  | _, _, _, _, .cons q t, s => .cons q (dpAll_app t s)
theorem dpAll_take {H : Hp} : ∀ {vs : List V} {ds : List PyData} (n : Nat), DqAll H vs ds → DqAll H (vs.take n) (ds.take n)
  | _, _, 0, _ => .nil
  | _, _, _ + 1, .nil => .nil
  | _, _, n + 1, .cons q t => .cons q (dpAll_take n t)
theorem dpAll_drop {H : Hp} : ∀ {vs : List V} {ds : List PyData} (n : Nat), DqAll H vs ds → DqAll H (vs.drop n) (ds.drop n)
  | _, _, 0, s => s
  | _, _, _ + 1, .nil => .nil
  | _, _, n + 1, .cons _ t => dpAll_drop n t
theorem dpAll_set {H : Hp} {v : V} {d : PyData} (r : Dq H v d) : ∀ {vs : List V} {ds : List PyData} (n : Nat), DqAll H vs ds → DqAll H (vs.set n v) (ds.set n d)
  | _, _, _, .nil => .nil
  | _, _, 0, .cons _ t => .cons r t
  | _, _, n + 1, .cons q t => .cons q (dpAll_set r n t)
theorem dpAll_rep {H : Hp} : ∀ {vs : List V} {ds : List PyData} (n : Nat), DqAll H vs ds → DqAll H (List.replicate n vs).flatten (List.replicate n ds).flatten
  | _, _, 0, _ => .nil
  | _, _, n + 1, s => by
    rw [List.replicate_succ, List.replicate_succ, List.flatten_cons, List.flatten_cons]
    exact dpAll_app s (dpAll_rep n s)
theorem dpAll_ints {H : Hp} : ∀ {vs : List V} {ns : List Int}, DqAll H vs (ns.map PyData.int) → vs = ns.map V.int
  | [], [], .nil => rfl
  | _ :: _, n :: ns, .cons q t => by
    cases q
    rw [dpAll_ints t]; rfl
theorem dpAll_bools {H : Hp} : ∀ {vs : List V} {ns : List Bool}, DqAll H vs (ns.map PyData.bool) → vs = ns.map V.bl
  | [], [], .nil => rfl
  | _ :: _, n :: ns, .cons q t => by
    cases q
    rw [dpAll_bools t]; rfl
theorem dpAll_of_ints {H : Hp} : ∀ (ns : List Int), DqAll H (ns.map V.int) (ns.map PyData.int)
  | [] => .nil
  | n :: ns => .cons (.int n) (dpAll_of_ints ns)
end
/-- data that stays -/
def dat (d : PyData) : Rp := ⟨fun H v => Dq H v d, fun e h => dp_up e h⟩
/-- a list, wherever it stands, of data that stays -/
def bL (ds : List PyData) : Bw := ⟨fun G L v => ∃ a vs, v = .ref a ∧ (G a = some (.lst vs) ∨ (a, HO.lst vs) ∈ L) ∧ DqAll G vs ds, fun e l h => by
  obtain ⟨a, vs, r, q, d⟩ := h
  exact ⟨a, vs, r, q.elim (fun z => .inl (e _ _ z)) (fun z => .inr (l _ z)), dpAll_up e d⟩⟩
/-- an owned list of data that stays -/
def oL (ds : List PyData) : Op := ⟨fun G a cs => ∃ vs, cs = [(a, HO.lst vs)] ∧ DqAll G vs ds, fun e h => by
  obtain ⟨vs, r, d⟩ := h
  exact ⟨vs, r, dpAll_up e d⟩⟩
abbrev dI (i : Int) : Rp := dat (.int i)
abbrev dB (b : Bool) : Rp := dat (.bool b)

/-! ### expressions -/
/-- the value has B, now and as long as the slots stand -/
structure Ev (te : TE) (ρ : List Sl) (B : Bw) : Prop where
  run : ∀ {G : Hp} {σ : L2.St} {L0 : List Cell} {H : Hp} (Q : VK), Stt G ρ σ L0 H →
    (∀ G' H' v, Same G G' → Stt G' ρ σ L0 H' → (∀ G'' L'' H'', Same G' G'' → Slots G'' L0 σ ρ L'' → Lay G'' (L'' ++ L0) H'' → B.p G'' (L'' ++ L0) v) → Q v H') → te σ H Q
/-- a new list -/
structure EvN (te : TE) (ρ : List Sl) (ds : List PyData) : Prop where
  run : ∀ {G : Hp} {σ : L2.St} {L0 : List Cell} {H : Hp} (Q : VK), Stt G ρ σ L0 H →
    (∀ G' H' p vs, Same G G' → Stt G' ρ σ L0 H' → H' p = none → DqAll G' vs ds → Q (.ref p) (upd H' p (.lst vs))) → te σ H Q
structure EvT (tt : TT) (ρ : List Sl) (b : Bool) : Prop where
  run : ∀ {G : Hp} {σ : L2.St} {L0 : List Cell} {H : Hp} (Q : Bool → Hp → Prop), Stt G ρ σ L0 H →
    (∀ G' H', Same G G' → Stt G' ρ σ L0 H' → Q b H') → tt σ H Q
inductive AllB (G : Hp) (L : List Cell) : List V → List Bw → Prop
  | nil : AllB G L [] []
  | cons {v vs} {B : Bw} {Bs} : B.p G L v → AllB G L vs Bs → AllB G L (v :: vs) (B :: Bs)
structure EvA (ta : TA) (ρ : List Sl) (Bs : List Bw) : Prop where
  run : ∀ {G : Hp} {σ : L2.St} {L0 : List Cell} {H : Hp} (Q : List V → Hp → Prop), Stt G ρ σ L0 H →
    (∀ G' H' vs, Same G G' → Stt G' ρ σ L0 H' → (∀ G'' L'' H'', Same G' G'' → Slots G'' L0 σ ρ L'' → Lay G'' (L'' ++ L0) H'' → AllB G'' (L'' ++ L0) vs Bs) → Q vs H') → ta σ H Q
section
variable {K : PySem.W.Frag} {ρ : List Sl} {te ta tb : TE} {R : Rp} {B Ba Bb : Bw} {i j : Int}
/-- with pure results the wish is simple -/
theorem Ev.pure (h : ∀ {G : Hp} {σ : L2.St} {L0 : List Cell} {H : Hp} (Q : VK), Stt G ρ σ L0 H → (∀ G' H' v, Same G G' → Stt G' ρ σ L0 H' → R.p G' v → Q v H') → te σ H Q) : Ev te ρ (pu R) :=
  ⟨fun Q s q => h Q s fun G' H' v e s' r => q G' H' v e s' fun G'' L'' H'' e' _ _ => R.up e' r⟩
theorem Ev.at (h : Ev te ρ B) {G : Hp} {σ : L2.St} {L0 : List Cell} {H : Hp} {Q : VK} (s : Stt G ρ σ L0 H) (q : ∀ G' H' v L, Same G G' → Stt G' ρ σ L0 H' → Slots G' L0 σ ρ L → Lay G' (L ++ L0) H' → B.p G' (L ++ L0) v → Q v H') : te σ H Q :=
  h.run Q s fun G' H' v e s' r => by
    obtain ⟨L, a, b⟩ := id s'
    exact q G' H' v L e s' a b (r G' L H' (Same.refl _) a b)
theorem Ev.atp (h : Ev te ρ (pu R)) {G : Hp} {σ : L2.St} {L0 : List Cell} {H : Hp} {Q : VK} (s : Stt G ρ σ L0 H) (q : ∀ G' H' v, Same G G' → Stt G' ρ σ L0 H' → R.p G' v → Q v H') : te σ H Q :=
  h.at s fun G' H' v _ e s' _ _ r => q G' H' v e s' r
theorem Ev.imp {B' : Bw} (h : Ev te ρ B) (k : ∀ G L v, B.p G L v → B'.p G L v) : Ev te ρ B' := ⟨fun Q s q => h.run Q s fun G' H' v e s' r => q G' H' v e s' fun G'' L'' H'' e' a b => k _ _ _ (r G'' L'' H'' e' a b)⟩
theorem Ev.is {B' : Bw} (h : Ev te ρ B) (k : B = B') : Ev te ρ B' := by rw [← k]; exact h
theorem ev_var {i : Nat} (h : ρ[i]? = some (.p R)) : Ev (tVar i) ρ (pu R) := by
  refine Ev.pure fun Q s q => ?_
  obtain ⟨v, e, r⟩ := s.get_p h
  exact ⟨v, e, q _ _ v (Same.refl _) s r⟩
theorem ev_b {i : Nat} (h : ρ[i]? = some (.b B)) : Ev (tVar i) ρ B := by
  refine ⟨fun Q s q => ?_⟩
  obtain ⟨v, e, r⟩ := s.get_b h
  exact ⟨v, e, q _ _ v (Same.refl _) s fun G'' L'' H'' e' a b => B.up e' (fun c hc => List.mem_append_right _ hc) r⟩
/-- an owned list, read -/
theorem ev_o {ds : List PyData} {i : Nat} (h : ρ[i]? = some (.o (oL ds))) : Ev (tVar i) ρ (bL ds) := by
  refine ⟨fun Q s q => ?_⟩
  obtain ⟨a, cs, e, _⟩ := s.get_o h
  refine ⟨_, e, q _ _ _ (Same.refl _) s fun G'' L'' H'' e' sl la => ?_⟩
  obtain ⟨a', cs', M, e1, ⟨vs, e2, d⟩, pm, _⟩ := sl.get_o h
  rw [e] at e1
  injection e1 with e1; injection e1 with e1; injection e1 with e1
  subst e1 e2
  exact ⟨a, vs, rfl, .inr (List.mem_append_left _ (pm.mem_iff.mpr (List.mem_append_left _ (List.mem_cons_self ..)))), d⟩
theorem bl_of_dat {ds : List PyData} : ∀ G L v, (pu (dat (.list ds))).p G L v → (bL ds).p G L v := fun G L v h => by
  have h : Dq G v (.list ds) := h
  cases h with
  | lst a b => exact ⟨_, _, rfl, .inl a, b⟩
theorem Ev.bl {ds : List PyData} (h : Ev te ρ (pu (dat (.list ds)))) : Ev te ρ (bL ds) := h.imp bl_of_dat
theorem ev_int : Ev (tC (.int i)) ρ (pu (dI i)) := Ev.pure fun Q s q => q _ _ _ (Same.refl _) s (Dq.int i)
theorem ev_bl {b : Bool} : Ev (tC (.bl b)) ρ (pu (dB b)) := Ev.pure fun Q s q => q _ _ _ (Same.refl _) s (Dq.bl b)
theorem ev_non : Ev (tC .non) ρ (pu (dat .none)) := Ev.pure fun Q s q => q _ _ _ (Same.refl _) s Dq.non
theorem ev_str {x : Str} : Ev (tC (.str x)) ρ (pu (dat (.str x))) := Ev.pure fun Q s q => q _ _ _ (Same.refl _) s (Dq.str x)
theorem EvN.ev {ds : List PyData} (h : EvN te ρ ds) : Ev te ρ (pu (dat (.list ds))) := Ev.pure fun Q s q => h.run Q s fun G' H' p vs e s' hp d => by
  have g := s'.grow (o := .lst vs) hp
  exact q _ _ _ (e.trans g.1) g.2 (Dq.lst upd_same (dpAll_up g.1 d))
theorem EvN.is {ds ds' : List PyData} (h : EvN te ρ ds) (e : ds = ds') : EvN te ρ ds' := by rw [← e]; exact h
/-- an operation on two values, that makes nothing -/
def Op2 (r : R2) (Ba Bb : Bw) (R : Rp) : Prop := ∀ (G H : Hp) (L : List Cell) (x y : V) (Q : VK), Lay G L H → Ba.p G L x → Bb.p G L y → (∀ v, R.p G v → Q v H) → r x y H Q
theorem ev_op {r : R2} (ha : Ev ta ρ Ba) (hb : Ev tb ρ Bb) (h : Op2 r Ba Bb R) : Ev (tOp r ta tb) ρ (pu R) := Ev.pure fun Q s q =>
  ha.run _ s fun G1 H1 x e1 s1 rx => hb.run _ s1 fun G2 H2 y e2 s2 ry => by
    obtain ⟨L, a, b⟩ := id s2
    exact h G2 H2 _ x y Q b (rx G2 L H2 e2 a b) (ry G2 L H2 (Same.refl _) a b) fun v rv => q G2 H2 v (e1.trans e2) s2 rv
/-- .. that makes a new list -/
def Op2N (r : R2) (Ba Bb : Bw) (ds : List PyData) : Prop := ∀ (G H : Hp) (L : List Cell) (x y : V) (Q : VK), Lay G L H → Ba.p G L x → Bb.p G L y → (∀ p vs, H p = none → DqAll G vs ds → Q (.ref p) (upd H p (.lst vs))) → r x y H Q
theorem ev_opN {r : R2} {ds : List PyData} (ha : Ev ta ρ Ba) (hb : Ev tb ρ Bb) (h : Op2N r Ba Bb ds) : EvN (tOp r ta tb) ρ ds := ⟨fun Q s q =>
  ha.run _ s fun G1 H1 x e1 s1 rx => hb.run _ s1 fun G2 H2 y e2 s2 ry => by
    obtain ⟨L, a, b⟩ := id s2
    exact h G2 H2 _ x y Q b (rx G2 L H2 e2 a b) (ry G2 L H2 (Same.refl _) a b) fun p vs hp d => q G2 H2 p vs (e1.trans e2) s2 hp d⟩
theorem o_int0 {g : Int → Int → Int} : Op2 (rI0 fun i j => .int (g i j)) (pu (dI i)) (pu (dI j)) (dI (g i j)) := fun G H L x y Q _ hx hy q => by
  cases hx; cases hy
  exact ⟨i, j, rfl, rfl, q _ (Dq.int _)⟩
theorem o_bool0 {g : Int → Int → Bool} : Op2 (rI0 fun i j => .bl (g i j)) (pu (dI i)) (pu (dI j)) (dB (g i j)) := fun G H L x y Q _ hx hy q => by
  cases hx; cases hy
  exact ⟨i, j, rfl, rfl, q _ (Dq.bl _)⟩
theorem o_intC {C : Int → Int → Prop} {g : Int → Int → Int} (hc : C i j) : Op2 (rI C fun i j => .int (g i j)) (pu (dI i)) (pu (dI j)) (dI (g i j)) := fun G H L x y Q _ hx hy q => by
  cases hx; cases hy
  exact ⟨i, j, rfl, rfl, hc, q _ (Dq.int _)⟩
theorem o_eqI : Op2 rEq (pu (dI i)) (pu (dI j)) (dB (decide (i = j))) := fun G H L x y Q _ hx hy q => by
  cases hx; cases hy
  refine ⟨rfl, q _ ?_⟩
  rw [show decide (V.int i = V.int j) = decide (i = j) by simp]
  exact Dq.bl _
theorem o_neI : Op2 rNe (pu (dI i)) (pu (dI j)) (dB (!decide (i = j))) := fun G H L x y Q _ hx hy q => by
  cases hx; cases hy
  refine ⟨rfl, q _ ?_⟩
  rw [show decide (V.int i = V.int j) = decide (i = j) by simp]
  exact Dq.bl _
theorem o_eqD {d e : PyData} (hd : SeqAt.shaped d = true) (he : SeqAt.shaped e = true) : Op2 (rEqD K) (pu (dat d)) (pu (dat e)) (dB (PyData.eqv d e)) := fun G H L x y Q l hx hy q =>
  ⟨d, e, dq_dp (dp_up l.same hx), dq_dp (dp_up l.same hy), hd, he, q _ (Dq.bl _)⟩
theorem o_neD {d e : PyData} (hd : SeqAt.shaped d = true) (he : SeqAt.shaped e = true) : Op2 (rNeD K) (pu (dat d)) (pu (dat e)) (dB (!PyData.eqv d e)) := fun G H L x y Q l hx hy q =>
  ⟨d, e, dq_dp (dp_up l.same hx), dq_dp (dp_up l.same hy), hd, he, q _ (Dq.bl _)⟩
theorem bl_sq {G H : Hp} {L : List Cell} {ds : List PyData} {v : V} (l : Lay G L H) (h : (bL ds).p G L v) : ∃ a vs, v = .ref a ∧ H a = some (.lst vs) ∧ DqAll G vs ds := by
  obtain ⟨a, vs, r, q, d⟩ := h
  exact ⟨a, vs, r, q.elim (fun z => l.same _ _ z) (fun z => (l.on _ z).1), d⟩
theorem atI_all {G : Hp} {vs : List V} {ds : List PyData} {d : PyData} (h : DqAll G vs ds) (e : atI ds i = some d) : ∃ v, atI vs i = some v ∧ Dq G v d := by
  unfold atI at e ⊢
  rw [dpAll_len h]
  cases q : ixN ds.length i with
  | none => rw [q] at e; cases e
  | some k =>
    rw [q] at e
    exact dpAll_get h e
theorem o_ixL {ds : List PyData} {d : PyData} (e : atI ds i = some d) : Op2 (rIxL K) (bL ds) (pu (dI i)) (dat d) := fun G H L x y Q l hx hy q => by
  obtain ⟨a, vs, r, h, dd⟩ := bl_sq l hx
  cases hy
  obtain ⟨v, hv, dv⟩ := atI_all dd e
  exact ⟨a, vs, i, v, r, rfl, .inl (.inl h), hv, q v dv⟩
theorem o_ixT {ds : List PyData} {d : PyData} (e : atI ds i = some d) : Op2 (rIxT K) (pu (dat (.tuple ds))) (pu (dI i)) (dat d) := fun G H L x y Q l hx hy q => by
  have hx : Dq G x (.tuple ds) := hx
  cases hx with
  | tup h dd =>
    cases hy
    obtain ⟨v, hv, dv⟩ := atI_all dd e
    exact ⟨_, _, i, v, rfl, rfl, .inl (.inl (l.same _ _ h)), hv, q v dv⟩
/-- a one-place operation -/
theorem ev_neg (ha : Ev ta ρ (pu (dI i))) : Ev (tUn (rU fun i => .int (-i)) ta) ρ (pu (dI (-i))) := Ev.pure fun Q s q =>
  ha.atp s fun G' H' v e s' r => by
    cases r
    exact ⟨i, rfl, q _ _ _ e s' (Dq.int _)⟩
/-! tests -/
theorem et_test {b : Bool} (h : Ev te ρ (pu (dB b))) : EvT (tTest te) ρ b := ⟨fun Q s q => h.atp s fun G' H' v e s' r => by
  cases r
  exact ⟨b, rfl, q _ _ e s'⟩⟩
theorem et_B {b : Bool} (h : Ev te ρ (pu (dB b))) : EvT (tB te) ρ b := ⟨fun Q s q => h.atp s fun G' H' v e s' r => by
  cases r
  exact ⟨b, rfl, q _ _ e s'⟩⟩
theorem et_and {t u : TT} {a b : Bool} (h1 : EvT t ρ a) (h2 : a = true → EvT u ρ b) : EvT (tAnd t u) ρ (a && b) := ⟨fun Q s q => h1.run _ s fun G1 H1 e1 s1 => by
  cases a with
  | true =>
    show u _ _ Q
    exact (h2 rfl).run Q s1 fun G2 H2 e2 s2 => q G2 H2 (e1.trans e2) s2
  | false => exact q G1 H1 e1 s1⟩
theorem et_or {t u : TT} {a b : Bool} (h1 : EvT t ρ a) (h2 : a = false → EvT u ρ b) : EvT (tOr t u) ρ (a || b) := ⟨fun Q s q => h1.run _ s fun G1 H1 e1 s1 => by
  cases a with
  | false =>
    show u _ _ Q
    exact (h2 rfl).run Q s1 fun G2 H2 e2 s2 => q G2 H2 (e1.trans e2) s2
  | true => exact q G1 H1 e1 s1⟩
theorem et_not {t : TT} {a : Bool} (h1 : EvT t ρ a) : EvT (tNot t) ρ (!a) := ⟨fun Q s q => h1.run _ s fun G1 H1 e1 s1 => q G1 H1 e1 s1⟩
theorem EvT.is {t : TT} {a b : Bool} (h : EvT t ρ a) (e : a = b) : EvT t ρ b := by rw [← e]; exact h
/-- a < b < c -/
theorem ev_chain {r r' : R2} {tc : TE} {Bc : Bw} {a b : Bool} (ha : Ev ta ρ Ba) (hb : Ev tb ρ Bb) (hc : a = true → Ev tc ρ Bc) (h : Op2 r Ba Bb (dB a)) (h' : a = true → Op2 r' Bb Bc (dB b)) : Ev (tChain r r' ta tb tc) ρ (pu (dB (a && b))) := Ev.pure fun Q s q =>
  ha.run _ s fun G1 H1 x e1 s1 rx => hb.run _ s1 fun G2 H2 y e2 s2 ry => by
    obtain ⟨L, sa, sb⟩ := id s2
    refine h G2 H2 _ x y _ sb (rx G2 L H2 e2 sa sb) (ry G2 L H2 (Same.refl _) sa sb) fun z rz => ?_
    cases rz
    refine ⟨a, rfl, ?_⟩
    cases a with
    | false => exact q G2 H2 _ (e1.trans e2) s2 (Dq.bl _)
    | true =>
      show tc _ _ _
      refine (hc rfl).run _ s2 fun G3 H3 w e3 s3 rw => ?_
      obtain ⟨L3, sa3, sb3⟩ := id s3
      exact h' rfl G3 H3 _ y w Q sb3 (ry G3 L3 H3 e3 sa3 sb3) (rw G3 L3 H3 (Same.refl _) sa3 sb3) fun v rv => q G3 H3 v ((e1.trans e2).trans e3) s3 (by cases rv; exact Dq.bl _)
theorem ev_andV {a b : Bool} (h1 : Ev ta ρ (pu (dB a))) (h2 : a = true → Ev tb ρ (pu (dB b))) : Ev (tAndV ta tb) ρ (pu (dB (a && b))) := Ev.pure fun Q s q => h1.atp s fun G1 H1 v e1 s1 r => by
  cases r
  refine ⟨a, rfl, ?_⟩
  cases a with
  | true => exact (h2 rfl).atp s1 fun G2 H2 v e2 s2 r2 => q G2 H2 v (e1.trans e2) s2 r2
  | false => exact q G1 H1 _ e1 s1 (Dq.bl _)
theorem ev_orV {a b : Bool} (h1 : Ev ta ρ (pu (dB a))) (h2 : a = false → Ev tb ρ (pu (dB b))) : Ev (tOrV ta tb) ρ (pu (dB (a || b))) := Ev.pure fun Q s q => h1.atp s fun G1 H1 v e1 s1 r => by
  cases r
  refine ⟨a, rfl, ?_⟩
  cases a with
  | false => exact (h2 rfl).atp s1 fun G2 H2 v e2 s2 r2 => q G2 H2 v (e1.trans e2) s2 r2
  | true => exact q G1 H1 _ e1 s1 (Dq.bl _)
theorem ev_notV {a : Bool} (h1 : Ev ta ρ (pu (dB a))) : Ev (tNotV ta) ρ (pu (dB (!a))) := Ev.pure fun Q s q => h1.atp s fun G1 H1 v e1 s1 r => by
  cases r
  exact ⟨a, rfl, q G1 H1 _ e1 s1 (Dq.bl _)⟩
theorem ev_if {t : TT} {b : Bool} (h : EvT t ρ b) (h1 : b = true → Ev ta ρ B) (h2 : b = false → Ev tb ρ B) : Ev (tIf t ta tb) ρ B := ⟨fun Q s q => h.run _ s fun G1 H1 e1 s1 => by
  cases b with
  | true => exact (h1 rfl).run Q s1 fun G2 H2 v e2 s2 r2 => q G2 H2 v (e1.trans e2) s2 r2
  | false => exact (h2 rfl).run Q s1 fun G2 H2 v e2 s2 r2 => q G2 H2 v (e1.trans e2) s2 r2⟩
/-! arguments, displays -/
theorem ea_nil : EvA tNil ρ [] := ⟨fun Q s q => q _ _ _ (Same.refl _) s fun _ _ _ _ _ _ => .nil⟩
theorem ea_cons {tr : TA} {Bs : List Bw} (h : Ev te ρ B) (hr : EvA tr ρ Bs) : EvA (tCons te tr) ρ (B :: Bs) := ⟨fun Q s q =>
  h.run _ s fun G1 H1 v e1 s1 r1 => hr.run _ s1 fun G2 H2 vs e2 s2 r2 => q G2 H2 (v :: vs) (e1.trans e2) s2 fun G3 L3 H3 e3 a b => .cons (r1 G3 L3 H3 (e2.trans e3) a b) (r2 G3 L3 H3 e3 a b)⟩
theorem EvA.at {tr : TA} {Bs : List Bw} (h : EvA tr ρ Bs) {G : Hp} {σ : L2.St} {L0 : List Cell} {H : Hp} {Q : List V → Hp → Prop} (s : Stt G ρ σ L0 H)
    (q : ∀ G' H' vs L, Same G G' → Slots G' L0 σ ρ L → Lay G' (L ++ L0) H' → AllB G' (L ++ L0) vs Bs → Q vs H') : tr σ H Q :=
  h.run _ s fun G' H' vs e s' r => by
    obtain ⟨L, a, b⟩ := id s'
    exact q G' H' vs L e a b (r G' L H' (Same.refl _) a b)
theorem allB_dat {G : Hp} {L : List Cell} : ∀ {vs : List V} {ds : List PyData}, AllB G L vs (ds.map fun d => pu (dat d)) → DqAll G vs ds
  | _, [], .nil => .nil
  | _, d :: ds, .cons h t => .cons h (allB_dat t)
theorem ev_tup {ta : TA} {ds : List PyData} (h : EvA ta ρ (ds.map fun d => pu (dat d))) (hl : ds.length ≤ 1000) : Ev (tTup ta) ρ (pu (dat (.tuple ds))) := Ev.pure fun Q s q =>
  h.at s fun G1 H1 vs L e1 a b r => by
    have d := allB_dat r
    refine ⟨by rw [dpAll_len d]; exact Nat.le_of_lt (small1000 hl), fun p hp => ?_⟩
    have g := Stt.grow ⟨L, a, b⟩ (o := .tup vs) hp
    exact q _ _ _ (e1.trans g.1) g.2 (Dq.tup upd_same (dpAll_up g.1 d))
theorem en_lst {ta : TA} {ds : List PyData} (h : EvA ta ρ (ds.map fun d => pu (dat d))) (hl : ds.length ≤ 1000) : EvN (tLst ta) ρ ds := ⟨fun Q s q =>
  h.at s fun G1 H1 vs L e1 a b r => by
    have d := allB_dat r
    exact ⟨by rw [dpAll_len d]; exact Nat.le_of_lt (small1000 hl), fun p hp => q G1 H1 p vs e1 ⟨L, a, b⟩ hp d⟩⟩
/-- a builtin's call -/
def Cl (r : List V → Hp → VK → Prop) (Bs : List Bw) (R : Rp) : Prop := ∀ (G H : Hp) (L : List Cell) (vs : List V) (Q : VK), Lay G L H → AllB G L vs Bs → (∀ v, R.p G v → Q v H) → r vs H Q
theorem ev_cb {r : List V → Hp → VK → Prop} {ta : TA} {Bs : List Bw} (h : EvA ta ρ Bs) (hr : Cl r Bs R) : Ev (tCB r ta) ρ (pu R) := Ev.pure fun Q s q =>
  h.at s fun G1 H1 vs L e1 a b rv => hr G1 H1 _ vs Q b rv fun v r => q G1 H1 v e1 ⟨L, a, b⟩ r
def ClN (r : List V → Hp → VK → Prop) (Bs : List Bw) (ds : List PyData) : Prop := ∀ (G H : Hp) (L : List Cell) (vs : List V) (Q : VK), Lay G L H → AllB G L vs Bs → (∀ p ws, H p = none → DqAll G ws ds → Q (.ref p) (upd H p (.lst ws))) → r vs H Q
theorem en_cb {r : List V → Hp → VK → Prop} {ta : TA} {Bs : List Bw} {ds : List PyData} (h : EvA ta ρ Bs) (hr : ClN r Bs ds) : EvN (tCB r ta) ρ ds := ⟨fun Q s q =>
  h.at s fun G1 H1 vs L e1 a b rv => hr G1 H1 _ vs Q b rv fun p ws hp d => q G1 H1 p ws e1 ⟨L, a, b⟩ hp d⟩
end
end Z

set_option Elab.async false
set_option linter.all false
set_option maxRecDepth 100000
set_option maxHeartbeats 2000000
/-! Zc: statements, targets, loops, comprehensions. -/
namespace Z
open PySem PySem.Spec PyProof.Rows L2
/-! ### what a statement ends in -/
inductive Out where
  | nx (ρ : List Sl) | rt (R : Rp) | ro (O : Op) | bk (ρ : List Sl) | ct (ρ : List Sl) | go (ρ : List Sl) | xc (ρ : List Sl) (C : Addr) (n : Int)
def Nx (N : L2.St → Hp → Prop) (G : Hp) (L0 : List Cell) (ρ : List Sl) : Prop := ∀ G' σ' H', Same G G' → Stt G' ρ σ' L0 H' → N σ' H'
/-- an error's own dict -/
def atF (n : Int) : HO := .xd [(("at" : Str), V.int n)]
def Post (W : WX) (D : Ends) (G : Hp) (L0 : List Cell) : Out → Prop
  | .nx ρ => Nx D.nx G L0 ρ
  | .bk ρ => Nx D.bk G L0 ρ
  | .ct ρ => Nx D.ct G L0 ρ
  | .go ρ => Nx D.nx G L0 ρ ∧ Nx D.ct G L0 ρ
  | .rt R => ∀ G' ρ' σ' H' v, Same G G' → Stt G' ρ' σ' L0 H' → R.p G' v → D.rt v H'
  | .ro O => ∀ G' H' a cs, Same G G' → Lay G' (cs ++ L0) H' → O.p G' a cs → D.rt (.ref a) H'
  | .xc ρ C n => ∀ G' σ' H' d, Same G G' → Stt G' ρ σ' L0 H' → H' d = none → W (.ref C) (some d) σ' (upd H' d (atF n))
theorem Post.mono {W : WX} {D : Ends} {G G1 : Hp} {L0 : List Cell} {o : Out} (e : Same G G1) (h : Post W D G L0 o) : Post W D G1 L0 o := by
  cases o with
  | nx ρ => exact fun G' σ' H' e' s => h G' σ' H' (e.trans e') s
  | bk ρ => exact fun G' σ' H' e' s => h G' σ' H' (e.trans e') s
  | ct ρ => exact fun G' σ' H' e' s => h G' σ' H' (e.trans e') s
  | go ρ => exact ⟨fun G' σ' H' e' s => h.1 G' σ' H' (e.trans e') s, fun G' σ' H' e' s => h.2 G' σ' H' (e.trans e') s⟩
  | rt R => exact fun G' ρ' σ' H' v e' s r => h G' ρ' σ' H' v (e.trans e') s r
  | ro O => exact fun G' H' a cs e' l r => h G' H' a cs (e.trans e') l r
  | xc ρ C n => exact fun G' σ' H' d e' s r => h G' σ' H' d (e.trans e') s r
structure Ex (W : WX) (ts : TS) (ρ : List Sl) (o : Out) : Prop where
  run : ∀ {G : Hp} {σ : L2.St} {L0 : List Cell} {H : Hp} (D : Ends), Stt G ρ σ L0 H → Post W D G L0 o → ts D σ H
/-- storing at a target: what slots it touches, T -/
structure EvG (g : TG) (T : List Nat) (ρ : List Sl) (R : Rp) (ρ' : List Sl) : Prop where
  run : ∀ {G : Hp} {σ : L2.St} {L0 : List Cell} {H : Hp} (v : V) (Q : L2.St → Hp → Prop), Stt G ρ σ L0 H → R.p G v →
    (∀ G' σ' H', Same G G' → Stt G' ρ' σ' L0 H' → (∀ vs, (∀ i ∈ T, i ∈ vs) → wipe σ' vs = wipe σ vs) → Q σ' H') → g v σ H Q
structure EvGs (g : TGs) (T : List Nat) (ρ : List Sl) (ds : List PyData) (ρ' : List Sl) : Prop where
  run : ∀ {G : Hp} {σ : L2.St} {L0 : List Cell} {H : Hp} (vs : List V) (Q : L2.St → Hp → Prop), Stt G ρ σ L0 H → DqAll G vs ds →
    (∀ G' σ' H', Same G G' → Stt G' ρ' σ' L0 H' → (∀ vs, (∀ i ∈ T, i ∈ vs) → wipe σ' vs = wipe σ vs) → Q σ' H') → g vs σ H Q
theorem wipe_get (σ : L2.St) (j : Nat) : ∀ vs : List Nat, (wipe σ vs)[j]? = if j ∈ vs then (σ[j]?).map (fun _ => none) else σ[j]?
  | [] => by simp [wipe]
  | v :: vs => by
    show ((wipe σ vs).set v none)[j]? = _
    rw [List.getElem?_set, wipe_length, wipe_get σ j vs]
    by_cases hv : v = j
    · subst hv
      rw [if_pos rfl, if_pos (List.mem_cons_self ..)]
      by_cases hl : v < σ.length
      · rw [if_pos hl, List.getElem?_eq_getElem hl]; rfl
      · rw [if_neg hl, List.getElem?_eq_none (by omega)]; rfl
    · rw [if_neg hv]
      have e : (j ∈ v :: vs) = (j ∈ vs) := by
        rw [List.mem_cons]
        exact propext ⟨fun z => z.elim (fun q => absurd q.symm hv) id, Or.inr⟩
      by_cases hj : j ∈ vs
      · rw [if_pos hj, if_pos (List.mem_cons_of_mem _ hj)]
      · rw [if_neg hj, if_neg (by rw [e]; exact hj)]
theorem wipe_set {σ : L2.St} {i : Nat} {x : Option V} {vs : List Nat} (h : i ∈ vs) : wipe (σ.set i x) vs = wipe σ vs := by
  apply List.ext_getElem?
  intro j
  rw [wipe_get, wipe_get]
  by_cases hj : i = j
  · subst hj
    rw [if_pos h, if_pos h, List.getElem?_set]
    by_cases hl : i < σ.length
    · rw [if_pos rfl, if_pos hl, List.getElem?_eq_getElem hl]; rfl
    · rw [if_pos rfl, if_neg hl, List.getElem?_eq_none (by omega)]
  · rw [List.getElem?_set_ne hj]
section
variable {K : PySem.W.Frag} {W : WX} {ρ ρ' ρ1 : List Sl} {te ta tb : TE} {t u : TS} {R : Rp} {B : Bw} {o : Out} {i : Nat}
theorem Ex.next : Ex W tNext ρ (.nx ρ) := ⟨fun D s q => q _ _ _ (Same.refl _) s⟩
theorem Ex.break_ : Ex W tBreak ρ (.bk ρ) := ⟨fun D s q => q _ _ _ (Same.refl _) s⟩
theorem Ex.cont : Ex W tCont ρ (.ct ρ) := ⟨fun D s q => q _ _ _ (Same.refl _) s⟩
theorem Ex.go (h : Ex W t ρ (.nx ρ')) : Ex W t ρ (.go ρ') := ⟨fun D s q => h.run D s q.1⟩
theorem Ex.goc (h : Ex W t ρ (.ct ρ')) : Ex W t ρ (.go ρ') := ⟨fun D s q => h.run D s q.2⟩
theorem Ex.is {o' : Out} (h : Ex W t ρ o) (e : o = o') : Ex W t ρ o' := by rw [← e]; exact h
theorem Ex.of {ρ'} (e : ρ' = ρ) (h : Ex W t ρ' o) : Ex W t ρ o := by rw [← e]; exact h
theorem Nx.weak {N : L2.St → Hp → Prop} {G : Hp} {L0 : List Cell} (w : Wk ρ ρ') (h : Nx N G L0 ρ') : Nx N G L0 ρ := fun G' σ' H' e s => by
  obtain ⟨G2, e2, s2⟩ := s.weak w
  exact h G2 σ' H' (e.trans e2) s2
/-- told less ahead -/
theorem Ex.weak (w : Wk ρ ρ') (h : Ex W t ρ' o) : Ex W t ρ o := ⟨fun D s q => by
  obtain ⟨G2, e2, s2⟩ := s.weak w
  exact h.run D s2 (q.mono e2)⟩
theorem Ex.out (w : Wk ρ' ρ1) (h : Ex W t ρ (.nx ρ')) : Ex W t ρ (.nx ρ1) := ⟨fun D s q => h.run D s (Nx.weak w q)⟩
theorem Ex.goout (w : Wk ρ' ρ1) (h : Ex W t ρ (.go ρ')) : Ex W t ρ (.go ρ1) := ⟨fun D s q => h.run D s ⟨Nx.weak w q.1, Nx.weak w q.2⟩⟩
theorem Ex.seq (h : Ex W t ρ (.nx ρ1)) (k : Ex W u ρ1 o) : Ex W (tSeq t u) ρ o := ⟨fun D s q => h.run { D with nx := u D } s fun G' σ' H' e s' => k.run D s' (q.mono e)⟩
/-- an end that is not the next statement -/
def Out.ends : Out → Bool
  | .nx _ => false
  | .go _ => false
  | _ => true
theorem Ex.seqE (h : Ex W t ρ o) (k : o.ends = true) : Ex W (tSeq t u) ρ o := ⟨fun D s q => h.run { D with nx := u D } s (by
  cases o with
  | nx _ => cases k
  | go _ => cases k
  | bk _ => exact q
  | ct _ => exact q
  | rt _ => exact q
  | ro _ => exact q
  | xc _ _ _ => exact q)⟩
theorem Ex.ife {tc : TT} {b : Bool} (hc : EvT tc ρ b) (h1 : b = true → Ex W t ρ o) (h2 : b = false → Ex W u ρ o) : Ex W (tIfS tc t u) ρ o := ⟨fun D s q => hc.run _ s fun G1 H1 e1 s1 => by
  cases b with
  | true => exact (h1 rfl).run D s1 (q.mono e1)
  | false => exact (h2 rfl).run D s1 (q.mono e1)⟩
/-- an if whose two ways go their own ends -/
theorem Ex.ite {v : TS} {tc : TT} {b : Bool} (hc : EvT tc ρ b) (h1 : b = true → Ex W (tSeq t v) ρ o) (h2 : b = false → Ex W (tSeq u v) ρ o) : Ex W (tSeq (tIfS tc t u) v) ρ o := ⟨fun D s q => hc.run _ s fun G1 H1 e1 s1 => by
  cases b with
  | true => exact (h1 rfl).run D s1 (q.mono e1)
  | false => exact (h2 rfl).run D s1 (q.mono e1)⟩
theorem Ex.skip (h : Ex W u ρ o) : Ex W (tSeq tNext u) ρ o := Ex.seq Ex.next h
theorem Ex.set (h : Ev te ρ (pu R)) (i : Nat := i) : Ex W (tAsg te (gName i)) ρ (.nx (ρ.set i (.p R))) := ⟨fun D s q => h.atp s fun G' H' v e s' r => by
  obtain ⟨G2, e2, s2⟩ := s'.set_p r i
  exact q G2 _ H' (e.trans e2) s2⟩
theorem Ex.setN {ds : List PyData} (h : EvN te ρ ds) (hi : i < ρ.length) : Ex W (tAsg te (gName i)) ρ (.nx (ρ.set i (.o (oL ds)))) := ⟨fun D s q => h.run _ s fun G' H' p vs e s' hp d => by
  obtain ⟨G2, e2, s2⟩ := s'.set_o (O := oL ds) (a := p) (cs := [(p, .lst vs)]) (H' := upd H' p (.lst vs)) ⟨vs, rfl, d⟩ i hi (fun M l => l.cell hp)
  exact q G2 _ _ (e.trans e2) s2⟩
/-- an owned list is from now on data that stays -/
theorem Ex.freeze {ds : List PyData} (i : Nat) (hi : ρ[i]? = some (.o (oL ds))) (h : Ex W t (ρ.set i (.p (dat (.list ds)))) o) : Ex W t ρ o := ⟨fun {G σ L0 H} D s q => by
  obtain ⟨a, cs, e, ⟨vs, hcs, d⟩, hh, k1, k2⟩ := s.get_o hi
  subst hcs
  obtain ⟨G2, e2, s2⟩ := k2 (dat (.list ds)) fun G' e' hc => Dq.lst (hc (a, .lst vs) (List.mem_cons_self ..)) (dpAll_up e' d)
  exact h.run D s2 (q.mono e2)⟩
theorem Ex.ret (h : Ev te ρ (pu R)) : Ex W (tRet te) ρ (.rt R) := ⟨fun D s q => h.atp s fun G' H' v e s' r => q G' _ _ H' v e s' r⟩
theorem Ex.retN : Ex W tRetN ρ (.rt (dat .none)) := ⟨fun D s q => q _ _ _ _ _ (Same.refl _) s Dq.non⟩
theorem Ex.drop (h : Ev te ρ B) : Ex W (tDrop te) ρ (.nx ρ) := ⟨fun D s q => h.at s fun G' H' v L e s' _ _ _ => q G' _ H' e s'⟩
theorem Ex.asg {g : TG} {T : List Nat} (h : Ev te ρ (pu R)) (hg : EvG g T ρ R ρ') : Ex W (tAsg te g) ρ (.nx ρ') := ⟨fun D s q => h.atp s fun G' H' v e s' r => hg.run v _ s' r fun G2 σ2 H2 e2 s2 _ => q G2 σ2 H2 (e.trans e2) s2⟩
theorem eg_name : EvG (gName i) [i] ρ R (ρ.set i (.p R)) := ⟨fun v Q s r q => by
  obtain ⟨G2, e2, s2⟩ := s.set_p r i
  exact q G2 _ _ e2 s2 fun vs h => wipe_set (h i (List.mem_cons_self ..))⟩
theorem egs_nil : EvGs gNil [] ρ [] ρ := ⟨fun vs Q s r q => by
  cases r
  exact ⟨rfl, q _ _ _ (Same.refl _) s fun _ _ => rfl⟩⟩
theorem egs_cons {g : TG} {gs : TGs} {T U : List Nat} {d : PyData} {ds : List PyData} (h1 : EvG g T ρ (dat d) ρ1) (h2 : EvGs gs U ρ1 ds ρ') : EvGs (gCons g gs) (T ++ U) ρ (d :: ds) ρ' := ⟨fun vs Q s r q => by
  cases r with
  | cons r1 r2 =>
    exact ⟨_, _, rfl, h1.run _ _ s r1 fun G1 σ1 H1 e1 s1 w1 => h2.run _ _ s1 (dpAll_up e1 r2) fun G2 σ2 H2 e2 s2 w2 => q G2 σ2 H2 (e1.trans e2) s2 fun vs h =>
      (w2 vs fun i hi => h i (List.mem_append_right _ hi)).trans (w1 vs fun i hi => h i (List.mem_append_left _ hi))⟩⟩
theorem eg_tup {n : Nat} {gs : TGs} {T : List Nat} {ds : List PyData} (h : EvGs gs T ρ ds ρ') (hn : ds.length = n) : EvG (gTup K n gs) T ρ (dat (.tuple ds)) ρ' := ⟨fun v Q s r q => by
  have r : Dq _ v (.tuple ds) := r
  cases r with
  | tup a b => exact ⟨_, _, rfl, .inl (.inl (s.same _ _ a)), by rw [dpAll_len b]; exact hn, h.run _ Q s b q⟩⟩
/-! ### walks -/
/-- what a walk J yields where G stands: the data ds, one by one -/
structure Gives (J : It) (G0 : Hp) (L0 : List Cell) (ds : List PyData) : Prop where
  go : ∀ i G L H, Same G0 G → Lay G (L ++ L0) H → (h : i < ds.length) → J.go i H ∧ ∀ x H', J.yld i H x H' → ∃ G', Same G G' ∧ (∀ L, Lay G (L ++ L0) H → Lay G' (L ++ L0) H') ∧ Dq G' x ds[i]
  stop : ∀ i G L H, Same G0 G → Lay G (L ++ L0) H → ds.length ≤ i → J.stop i H
structure EvI (K : PySem.W.Frag) (wi : TI) (ρ : List Sl) (ds : List PyData) : Prop where
  run : ∀ {G : Hp} {σ : L2.St} {L0 : List Cell} {H : Hp} (Q : It → Hp → Prop), Stt G ρ σ L0 H →
    (∀ G' H' J, Same G G' → Stt G' ρ σ L0 H' → Gives J G' L0 ds → Q J H') → wi σ H Q
/-- a list that stays, or somebody else's -/
structure EvS (K : PySem.W.Frag) (te : TE) (ρ : List Sl) (ds : List PyData) : Prop where
  run : ∀ {G : Hp} {σ : L2.St} {L0 : List Cell} {H : Hp} (Q : VK), Stt G ρ σ L0 H →
    (∀ G' H' a vs, Same G G' → Stt G' ρ σ L0 H' → (∀ G'' L'' H'', Same G' G'' → Lay G'' (L'' ++ L0) H'' → SqL K H'' a vs) → DqAll G' vs ds → Q (.ref a) H') → te σ H Q
theorem Ev.s {ds : List PyData} (h : Ev te ρ (pu (dat (.list ds)))) : EvS K te ρ ds := ⟨fun Q s q => h.atp s fun G' H' v e s' r => by
  have r : Dq G' v (.list ds) := r
  cases r with
  | lst a b => exact q G' H' _ _ e s' (fun G'' L'' H'' e2 l => .inl (.inl (l.same _ _ (e2 _ _ a)))) b⟩
theorem es_b {ds : List PyData} (h : ρ[i]? = some (.b (bL ds))) : EvS K (tVar i) ρ ds := ⟨fun Q s q => by
  obtain ⟨v, e, r⟩ := s.get_b h
  obtain ⟨a, vs, rfl, hc, d⟩ := r
  exact ⟨_, e, q _ _ a vs (Same.refl _) s (fun G'' L'' H'' e2 l => .inl (.inl (hc.elim (fun z => l.same _ _ (e2 _ _ z)) fun z => (l.on _ (List.mem_append_right _ z)).1))) d⟩⟩
theorem ei_list {ds : List PyData} (h : EvS K te ρ ds) : EvI K (iList K te) ρ ds := ⟨fun Q s q => h.run _ s fun G' H' a vs e s' hc d => by
  obtain ⟨L, sl, la⟩ := id s'
  refine ⟨a, rfl, ⟨vs, hc _ _ _ (Same.refl _) la⟩, q G' H' _ e s' ⟨fun i G L H e2 l hi => ?_, fun i G L H e2 l hi => ?_⟩⟩
  · have hq := hc _ _ _ e2 l
    obtain ⟨v, hv, dv⟩ := dpAll_get d (List.getElem?_eq_getElem hi)
    refine ⟨⟨vs, v, hq, hv⟩, fun x H' y => ?_⟩
    obtain ⟨rfl, y⟩ := y
    have ex : x = v := Option.some.inj ((y vs hq).symm.trans hv)
    subst ex
    exact ⟨G, Same.refl _, fun L l => l, dp_up e2 dv⟩
  · exact ⟨vs, hc _ _ _ e2 l, by rw [dpAll_len d]; exact hi⟩⟩
/-- lo, lo + 1, .. -/
def irange (lo : Int) (n : Nat) : List PyData := (List.range n).map fun k => .int (lo + (k : Nat))
theorem irange_len (lo : Int) (n : Nat) : (irange lo n).length = n := by simp [irange]
theorem gives_range {G : Hp} {L0 : List Cell} {lo : Int} {n : Nat} : Gives (Itr lo n) G L0 (irange lo n) :=
  ⟨fun i G L H e l hi => ⟨by rw [irange_len] at hi; exact hi, fun x H' y => by
    obtain ⟨rfl, rfl⟩ := y
    refine ⟨G, Same.refl _, fun L l => l, ?_⟩
    have e : (irange lo n)[i] = .int (lo + (i : Nat)) := by simp [irange]
    rw [e]
    exact Dq.int _⟩, fun i G L H e l hi => by rw [irange_len] at hi; exact hi⟩
theorem ei_range1 {ta : TA} {n : Int} (h : EvA ta ρ [pu (dI n)]) (h1 : -(2 ^ 62) ≤ n) (h2 : n < 2 ^ 62) : EvI K (iRng1 ta) ρ (irange 0 n.toNat) := ⟨fun Q s q => h.at s fun G' H' vs L e a b r => by
  cases r with
  | cons r1 r2 =>
    cases r2; cases r1
    exact ⟨n, rfl, h1, h2, q G' H' _ e ⟨L, a, b⟩ gives_range⟩⟩
theorem ei_range2 {ta : TA} {m n : Int} (h : EvA ta ρ [pu (dI m), pu (dI n)]) (h1 : -(2 ^ 62) ≤ m) (h2 : m < 2 ^ 62) (h3 : -(2 ^ 62) ≤ n) (h4 : n < 2 ^ 62) : EvI K (iRng2 ta) ρ (irange m (n - m).toNat) := ⟨fun Q s q => h.at s fun G' H' vs L e a b r => by
  cases r with
  | cons r1 r2 =>
    cases r2 with
    | cons r2 r3 =>
      cases r3; cases r1; cases r2
      exact ⟨m, n, rfl, ⟨h1, h2, h3, h4⟩, q G' H' _ e ⟨L, a, b⟩ gives_range⟩⟩
theorem ei_enum {ds : List PyData} (h : EvS K te ρ ds) : EvI K (iEnum K (tCons te tNil)) ρ (ds.zipIdx.map fun p => .tuple [.int ((p.2 : Nat) : Int), p.1]) := ⟨fun Q s q => h.run _ s fun G' H' a vs e s' hc d => by
  obtain ⟨L, sl, la⟩ := id s'
  refine ⟨a, vs, rfl, hc _ _ _ (Same.refl _) la, q G' H' _ e s' ⟨fun i G L H e2 l hi => ?_, fun i G L H e2 l hi => ?_⟩⟩
  · have hi' : i < ds.length := by simpa using hi
    have hq := hc _ _ _ e2 l
    obtain ⟨v, hv, dv⟩ := dpAll_get d (List.getElem?_eq_getElem hi')
    refine ⟨⟨vs, v, hq, hv⟩, fun x H' y => ?_⟩
    obtain ⟨T, x2, rfl, hT, rfl, y⟩ := y
    have ex : x2 = v := Option.some.inj ((y vs hq).symm.trans hv)
    subst ex
    have g := same_upd (o := .tup [.int (i : Nat), x2]) (l.freshG hT)
    refine ⟨_, g, fun L l => l.grow hT, ?_⟩
    have e3 : (ds.zipIdx.map fun p => PyData.tuple [.int ((p.2 : Nat) : Int), p.1])[i] = .tuple [.int ((i : Nat) : Int), ds[i]] := by simp
    rw [e3]
    exact Dq.tup upd_same (.cons (.int _) (.cons (dp_up (e2.trans g) dv) .nil))
  · exact ⟨vs, hc _ _ _ e2 l, by rw [dpAll_len d]; simpa using hi⟩⟩
/-! ### loops -/
/-- one turn and the next; f s x: the next state, or the loop's end -/
def runF {α S : Type} (f : S → α → Sum S Out) : S → List α → Sum S Out
  | s, [] => .inl s
  | s, x :: xs => match f s x with
    | .inl s' => runF f s' xs
    | .inr o => .inr o
theorem runF_app {α S : Type} {f : S → α → Sum S Out} : ∀ {xs ys : List α} {s s' : S}, runF f s xs = .inl s' → runF f s (xs ++ ys) = runF f s' ys
  | [], _, _, _, h => by
    cases h
    rfl
  | x :: xs, ys, s, s', h => by
    show (match f s x with | .inl s' => runF f s' (xs ++ ys) | .inr o => .inr o) = _
    unfold runF at h
    cases q : f s x with
    | inl s1 =>
      rw [q] at h
      exact runF_app h
    | inr o =>
      rw [q] at h
      cases h
def unbk : Out → Out
  | .bk ρ => .nx ρ
  | o => o
def loopOut {S : Type} (E : S → List Sl) : Sum S Out → Out
  | .inl s => .nx (E s)
  | .inr o => unbk o
def turnOut {S : Type} (E : S → List Sl) : Sum S Out → Out
  | .inl s => .go (E s)
  | .inr o => o
/-- an end of a loop's turn that leaves the loop -/
def Out.leaves : Out → Bool
  | .rt _ => true
  | .ro _ => true
  | .bk _ => true
  | .xc _ _ _ => true
  | _ => false
theorem Ex.forF {α S : Type} {wi : TI} {g : TG} {tb : TS} {xs : List α} {en : α → PyData} {T : List Nat} {s0 : S} (E : S → List Sl) (f : S → α → Sum S Out) (hi : EvI K wi ρ (xs.map en)) (h0 : Wk ρ (E s0))
    (hb : ∀ pre x post s, xs = pre ++ x :: post → runF f s0 pre = .inl s → (∀ o, f s x = .inr o → o.leaves = true) ∧ ∃ T ρ1, EvG g T (E s) (dat (en x)) ρ1 ∧ Ex W tb ρ1 (turnOut E (f s x))) :
    Ex W (tFor wi g tb) ρ (loopOut E (runF f s0 xs)) := ⟨fun {G σ L0 H} D s q => hi.run _ s fun G1 H1 J e1 s1 gv => by
  obtain ⟨G2, e2, s2⟩ := s1.weak h0
  refine ⟨fun i m σ H => m = xs.length - i ∧ i ≤ xs.length ∧ ∃ s G', runF f s0 (xs.take i) = .inl s ∧ Same G2 G' ∧ Stt G' (E s) σ L0 H, ⟨xs.length, by simp, Nat.zero_le _, s0, G2, rfl, Same.refl _, s2⟩, ?_⟩
  rintro i m σ' H' ⟨rfl, hi, s', G', hr, e3, s3⟩
  obtain ⟨L3, sl3, la3⟩ := id s3
  have e13 : Same G1 G' := e2.trans e3
  by_cases hlt : i < xs.length
  · right
    have hx : xs[i]? = some xs[i] := List.getElem?_eq_getElem hlt
    have hsplit : xs = xs.take i ++ xs[i] :: xs.drop (i + 1) := by
      rw [List.getElem_cons_drop, List.take_append_drop]
    obtain ⟨hlv, T, ρ1, hg, hbody⟩ := hb _ _ _ s' hsplit hr
    obtain ⟨g1, g2⟩ := gv.go i G' L3 H' e13 la3 (by simpa using hlt)
    refine ⟨g1, fun σ'' H'' => ∃ s G', runF f s0 (xs.take (i + 1)) = .inl s ∧ Same G2 G' ∧ Stt G' (E s) σ'' L0 H'', fun σ'' H'' ⟨s, G'', a, b, c⟩ => ⟨xs.length - (i + 1), by omega, rfl, hlt, s, G'', a, b, c⟩, fun x H4 y => ?_⟩
    obtain ⟨G4, e4, l4, d4⟩ := g2 x H4 y
    have d4 : Dq G4 x (en xs[i]) := by simpa using d4
    have s4 : Stt G4 (E s') σ' L0 H4 := ⟨L3, sl3.up e4, l4 _ la3⟩
    refine hg.run x _ s4 d4 fun G5 σ5 H5 e5 s5 _ => ?_
    have e25 : Same G2 G5 := (e3.trans e4).trans e5
    refine hbody.run _ s5 ?_
    have htake : runF f s0 (xs.take (i + 1)) = runF f s' [xs[i]] := by
      rw [List.take_add_one, hx]
      exact runF_app hr
    cases hf : f s' xs[i] with
    | inl s6 =>
      have z : runF f s0 (xs.take (i + 1)) = .inl s6 := by
        rw [htake]
        show (match f s' xs[i] with | .inl s' => runF f s' [] | .inr o => .inr o) = _
        rw [hf]
        rfl
      have k : ∀ G6 σ6 H6, Same G5 G6 → Stt G6 (E s6) σ6 L0 H6 → ∃ s G', runF f s0 (xs.take (i + 1)) = .inl s ∧ Same G2 G' ∧ Stt G' (E s) σ6 L0 H6 := fun G6 σ6 H6 e6 st => ⟨s6, G6, z, e25.trans e6, st⟩
      exact ⟨k, k⟩
    | inr o =>
      have z : runF f s0 xs = .inr o := by
        rw [hsplit, runF_app hr]
        show (match f s' xs[i] with | .inl s' => runF f s' _ | .inr o => .inr o) = _
        rw [hf]
      rw [z] at q
      have q : Post W D G L0 (unbk o) := q
      have q := q.mono (e1.trans (e2.trans e25))
      have hl := hlv o hf
      cases o with
      | nx _ => cases hl
      | go _ => cases hl
      | ct _ => cases hl
      | bk _ => exact q
      | rt _ => exact q
      | ro _ => exact q
      | xc _ _ _ => exact q
  · left
    have e : i = xs.length := by omega
    subst e
    rw [List.take_length] at hr
    rw [hr] at q
    exact ⟨gv.stop _ G' L3 H' e13 la3 (by simp), q G' σ' H' (e1.trans e13) s3⟩⟩
/-- a loop that goes through: the state by the part taken -/
theorem Ex.for_ {α : Type} {wi : TI} {g : TG} {tb : TS} {xs : List α} {en : α → PyData} (E : List α → List Sl) (hi : EvI K wi ρ (xs.map en)) (h0 : Wk ρ (E []))
    (hb : ∀ pre x post, xs = pre ++ x :: post → ∃ T ρ1, EvG g T (E pre) (dat (en x)) ρ1 ∧ Ex W tb ρ1 (.go (E (pre ++ [x])))) :
    Ex W (tFor wi g tb) ρ (.nx (E xs)) := by
  have key : ∀ ys zs : List α, runF (fun (s : List α) x => (.inl (s ++ [x]) : Sum (List α) Out)) ys zs = .inl (ys ++ zs) := by
    intro ys zs
    induction zs generalizing ys with
    | nil => simp [runF]
    | cons z zs ih =>
      show runF _ (ys ++ [z]) zs = _
      rw [ih]
      simp
  have h := Ex.forF (W := W) (T := []) (s0 := ([] : List α)) (wi := wi) (g := g) (tb := tb) (xs := xs) (en := en) (ρ := ρ) E (fun s x => .inl (s ++ [x])) hi h0 (fun pre x post s e r => by
    rw [key] at r
    have r : [] ++ pre = s := Sum.inl.inj r
    rw [List.nil_append] at r
    subst r
    exact ⟨fun o z => (by cases z), hb pre x post e⟩)
  rw [key] at h
  exact h
end
end Z

set_option Elab.async false
set_option linter.all false
set_option maxRecDepth 100000
set_option maxHeartbeats 2000000
/-! Zd: comprehensions, lists changed, slices, calls of builtins. -/
namespace Z
open PySem PySem.Spec PyProof.Rows L2
theorem Slots.mono {G : Hp} {L0 L1 : List Cell} (h : ∀ c ∈ L0, c ∈ L1) : ∀ {σ ρ L}, Slots G L0 σ ρ L → Slots G L1 σ ρ L
  | _, _, _, .nil => .nil
  | _, _, _, .x s => .x (s.mono h)
  | _, _, _, .p q s => .p q (s.mono h)
  | _, _, _, .o q s => .o q (s.mono h)
  | _, _, _, .b q s => .b (Bw.up _ (Same.refl _) h q) (s.mono h)
/-- the new facts, the borrowed ones by the old frame -/
theorem Slots.mix {G G' : Hp} {L0 L1 : List Cell} (e : Same G G') : ∀ {σ ρ L L'}, Slots G L0 σ ρ L → Slots G' L1 σ ρ L' → Slots G' L0 σ ρ L'
  | _, _, _, _, .nil, .nil => .nil
  | _, _, _, _, .x s, .x s' => .x (s.mix e s')
  | _, _, _, _, .p _ s, .p q s' => .p q (s.mix e s')
  | _, _, _, _, .o _ s, .o q s' => .o q (s.mix e s')
  | _, _, _, _, .b q s, .b _ s' => .b (Bw.up _ e (fun _ z => z) q) (s.mix e s')
/-- slots that tell nothing may hold anything -/
theorem Slots.agree {G : Hp} {L0 : List Cell} : ∀ {σ : L2.St} {ρ : List Sl} {L} {σ' : L2.St}, Slots G L0 σ ρ L → σ'.length = σ.length → (∀ j : Nat, ρ[j]? ≠ some Sl.x → σ'[j]? = σ[j]?) → Slots G L0 σ' ρ L
  | _, _, _, [], .nil, _, _ => .nil
  | _, _, _, [], .x _, h, _ | _, _, _, [], .p _ _, h, _ | _, _, _, [], .o _ _, h, _ | _, _, _, [], .b _ _, h, _ => by simp at h
  | _, _, _, _ :: _, .nil, h, _ => by simp at h
  | _, _, _, v :: σ', .x s, h, k => .x (s.agree (by simpa using h) fun j hj => by simpa using k (j + 1) (by simpa using hj))
  | _, _, _, v :: σ', .p q s, h, k => by
    have e := k 0 (by simp)
    simp at e
    subst e
    exact .p q (s.agree (by simpa using h) fun j hj => by simpa using k (j + 1) (by simpa using hj))
  | _, _, _, v :: σ', .b q s, h, k => by
    have e := k 0 (by simp)
    simp at e
    subst e
    exact .b q (s.agree (by simpa using h) fun j hj => by simpa using k (j + 1) (by simpa using hj))
  | _, _, _, v :: σ', .o q s, h, k => by
    have e := k 0 (by simp)
    simp at e
    subst e
    exact .o q (s.agree (by simpa using h) fun j hj => by simpa using k (j + 1) (by simpa using hj))
/-- the slots vs tell nothing -/
def AllX (ρ : List Sl) : List Nat → Prop
  | [] => True
  | v :: vs => ρ[v]? = some Sl.x ∧ AllX ρ vs
theorem AllX.at {ρ : List Sl} : ∀ {vs : List Nat} {v : Nat}, AllX ρ vs → v ∈ vs → ρ[v]? = some Sl.x
  | [], _, _, h => by simp at h
  | w :: vs, v, ⟨h1, h2⟩, h => by
    rcases List.mem_cons.mp h with z | z
    · rw [z]; exact h1
    · exact h2.at z
theorem wipe_agree {ρ : List Sl} {σ : L2.St} {vs : List Nat} (h : AllX ρ vs) : ∀ j : Nat, ρ[j]? ≠ some Sl.x → (wipe σ vs)[j]? = σ[j]? := fun j hj => by
  rw [wipe_get]
  by_cases hm : j ∈ vs
  · exact absurd (h.at hm) hj
  · rw [if_neg hm]
theorem wipe_two {ρ : List Sl} {σ σ' : L2.St} {vs : List Nat} (h : AllX ρ vs) (e : wipe σ' vs = wipe σ vs) : ∀ j : Nat, ρ[j]? ≠ some Sl.x → σ'[j]? = σ[j]? := fun j hj => by
  rw [← wipe_agree (σ := σ') h j hj, e, wipe_agree h j hj]
theorem len_two {σ σ' : L2.St} {vs : List Nat} (e : wipe σ' vs = wipe σ vs) : σ'.length = σ.length := by
  have := congrArg List.length e
  rwa [wipe_length, wipe_length] at this
section
variable {K : PySem.W.Frag} {W : WX} {ρ ρ' ρ1 : List Sl} {te ta tb : TE} {t u : TS} {R : Rp} {B : Bw} {o : Out} {i : Nat}
theorem filt_take {α : Type} (p : α → Bool) {xs : List α} {i : Nat} {x : α} (h : xs[i]? = some x) : (xs.take (i + 1)).filter p = (xs.take i).filter p ++ (if p x = true then [x] else []) := by
  rw [List.take_add_one, h, List.filter_append]
  congr 1
  by_cases hp : p x = true
  · rw [if_pos hp]; simp [hp]
  · rw [if_neg hp]; simp [hp]
/-- [f x for x in xs if p x] -/
theorem en_lc {α : Type} {wi : TI} {g : TG} {tt : TT} {vs : List Nat} {xs : List α} {en f : α → PyData} {p : α → Bool} (hi : EvI K wi ρ (xs.map en)) (hx : AllX ρ vs) (hz : xs.length ≤ 100000)
    (hb : ∀ x ∈ xs, ∃ T ρ1, EvG g T ρ (dat (en x)) ρ1 ∧ (∀ i ∈ T, i ∈ vs) ∧ Wk ρ1 ρ ∧ EvT tt ρ1 (p x) ∧ (p x = true → Ev te ρ1 (pu (dat (f x))))) : EvN (tLc wi g tt te vs) ρ ((xs.filter p).map f) := ⟨fun {G σ L0 H} Q s q => hi.run _ s fun G1 H1 J e1 s1 gv D hD => by
  obtain ⟨L1, sl1, la1⟩ := id s1
  refine ⟨fun i m H => m = xs.length - i ∧ i ≤ xs.length ∧ ∃ G' ws L', Same G1 G' ∧ Slots G' L0 σ ρ L' ∧ Lay G' (L' ++ ((D, HO.lst ws) :: L0)) H ∧ DqAll G' ws (((xs.take i).filter p).map f), ⟨xs.length, by simp, Nat.zero_le _, G1, [], L1, Same.refl _, sl1, ?_, .nil⟩, ?_⟩
  · exact (la1.cell hD).perm List.perm_middle.symm
  rintro i m H2 ⟨rfl, hi, G2, ws, L2', e2, sl2, la2, d2⟩
  have la2' : Lay G2 ((L2' ++ [(D, HO.lst ws)]) ++ L0) H2 := by
    rw [List.append_assoc]
    exact la2
  by_cases hlt : i < xs.length
  · right
    have hxe : xs[i]? = some xs[i] := List.getElem?_eq_getElem hlt
    obtain ⟨g1, g2⟩ := gv.go i G2 _ H2 e2 la2' (by simpa using hlt)
    refine ⟨g1, fun H => ∃ G' ws L', Same G1 G' ∧ Slots G' L0 σ ρ L' ∧ Lay G' (L' ++ ((D, HO.lst ws) :: L0)) H ∧ DqAll G' ws (((xs.take (i + 1)).filter p).map f), fun H' ⟨G', ws, L', a, b, c, d⟩ => ⟨xs.length - (i + 1), by omega, rfl, hlt, G', ws, L', a, b, c, d⟩, fun x H3 y => ?_⟩
    obtain ⟨G3, e3, l3, d3⟩ := g2 x H3 y
    have d3 : Dq G3 x (en xs[i]) := by simpa using d3
    have la3 : Lay G3 (L2' ++ ((D, HO.lst ws) :: L0)) H3 := by
      have := l3 _ la2'
      rw [List.append_assoc] at this
      exact this
    obtain ⟨T, ρ1, hg, hT, hwk, ht, hf⟩ := hb xs[i] (List.getElem_mem hlt)
    have sw : Stt G3 ρ (wipe σ vs) ((D, HO.lst ws) :: L0) H3 := ⟨L2', ((sl2.up e3).mono fun c hc => List.mem_cons_of_mem _ hc).agree (wipe_length σ vs) (wipe_agree hx), la3⟩
    refine hg.run x _ sw d3 fun G4 σ4 H4 e4 s4 w4 => ?_
    have hw4 : wipe σ4 vs = wipe σ vs := by
      rw [w4 vs hT]
      apply List.ext_getElem?
      intro j
      rw [wipe_get, wipe_get]
      by_cases hj : j ∈ vs
      · simp only [if_pos hj]
        cases σ[j]? <;> rfl
      · simp only [if_neg hj]
    refine ⟨hw4, ?_⟩
    -- back to the outer slots
    have back : ∀ {G5 H5}, Same G3 G5 → Stt G5 ρ1 σ4 ((D, HO.lst ws) :: L0) H5 → ∃ G6 L6, Same G5 G6 ∧ Slots G6 L0 σ ρ L6 ∧ Lay G6 (L6 ++ ((D, HO.lst ws) :: L0)) H5 := fun {G5 H5} e5 s5 => by
      obtain ⟨G6, e6, L6, sl6, la6⟩ := s5.weak hwk
      have sl6' := sl6.agree (σ' := σ) (len_two hw4).symm fun j hj => (wipe_two hx hw4 j hj).symm
      exact ⟨G6, L6, e6, (sl2.up e3).mix (e5.trans e6) sl6', la6⟩
    refine ht.run _ s4 fun G5 H5 e5 s5 => ?_
    cases hp : p xs[i] with
    | true =>
      show te _ _ _
      refine (hf hp).atp s5 fun G6 H6 y e6 s6 r6 => ?_
      obtain ⟨G7, L7, e7, sl7, la7⟩ := back ((e4.trans e5).trans e6) s6
      have hc : H6 D = some (HO.lst ws) := (la7.on (D, HO.lst ws) (List.mem_append_right _ (List.mem_cons_self ..))).1
      have e27 : Same G2 G7 := e3.trans (((e4.trans e5).trans e6).trans e7)
      refine ⟨ws, hc, ?_, G7, ws ++ [y], L7, e2.trans e27, sl7, ?_, ?_⟩
      · rw [dpAll_len d2, List.length_map]
        have h1 : ((xs.take i).filter p).length ≤ (xs.take i).length := List.length_filter_le ..
        have h2 : (xs.take i).length ≤ i := by rw [List.length_take]; exact Nat.min_le_left ..
        exact Nat.lt_of_lt_of_le (by omega : _ < 100001) (by decide)
      · exact ((la7.perm List.perm_middle).store).perm List.perm_middle.symm
      · rw [filt_take p hxe, hp, if_pos rfl, List.map_append]
        exact dpAll_app (dpAll_up e27 d2) (.cons (dp_up e7 r6) .nil)
    | false =>
      show ∃ G' ws L', _
      obtain ⟨G7, L7, e7, sl7, la7⟩ := back (e4.trans e5) s5
      have e27 : Same G2 G7 := e3.trans ((e4.trans e5).trans e7)
      refine ⟨G7, ws, L7, e2.trans e27, sl7, la7, ?_⟩
      rw [filt_take p hxe, hp, if_neg Bool.false_ne_true, List.append_nil]
      exact dpAll_up e27 d2
  · left
    have ei : i = xs.length := by omega
    subst ei
    refine ⟨gv.stop _ G2 _ H2 e2 la2' (by simp), ?_⟩
    rw [List.take_length] at d2
    -- the list taken out again
    have la4 : Lay G2 ((D, HO.lst ws) :: (L2' ++ L0)) H2 := la2.perm List.perm_middle
    have hne := la4.ne
    have eH : H2 = upd (fun b => if b = D then none else H2 b) D (.lst ws) := by
      funext b
      by_cases hb : b = D
      · rw [hb, upd_same]; exact (la4.on _ (List.mem_cons_self ..)).1
      · rw [upd_ne hb, if_neg hb]
    have la5 : Lay G2 (L2' ++ L0) (fun b => if b = D then none else H2 b) := by
      refine ⟨fun b hb => ?_, fun c hc => ?_, ?_⟩
      · by_cases h : b = D
        · rw [h, if_pos rfl]; exact ((la4.on _ (List.mem_cons_self ..)).2).symm
        · rw [if_neg h]
          refine la4.off b fun c hc => ?_
          rcases List.mem_cons.mp hc with z | z
          · subst z; exact fun z => h z.symm
          · exact hb c z
      · rw [if_neg (hne c hc)]; exact la4.on c (List.mem_cons_of_mem _ hc)
      · have := la4.nd
        rw [List.map_cons, List.nodup_cons] at this
        exact this.2
    rw [eH]
    exact q G2 _ D ws (e1.trans e2) ⟨L2', sl2, la5⟩ (if_pos rfl) d2⟩
/-- without an if -/
theorem en_lc0 {α : Type} {wi : TI} {g : TG} {vs : List Nat} {xs : List α} {en f : α → PyData} (hi : EvI K wi ρ (xs.map en)) (hx : AllX ρ vs) (hz : xs.length ≤ 100000)
    (hb : ∀ x ∈ xs, ∃ T ρ1, EvG g T ρ (dat (en x)) ρ1 ∧ (∀ i ∈ T, i ∈ vs) ∧ Wk ρ1 ρ ∧ Ev te ρ1 (pu (dat (f x)))) : EvN (tLc wi g tYes te vs) ρ (xs.map f) := by
  have h := en_lc (p := fun _ => true) hi hx hz (tt := tYes) (g := g) (te := te) (f := f) fun x hxm => by
    obtain ⟨T, ρ1, h1, h2, h3, h4⟩ := hb x hxm
    exact ⟨T, ρ1, h1, h2, h3, ⟨fun Q s q => q _ _ (Same.refl _) s⟩, fun _ => h4⟩
  rw [List.filter_eq_self.mpr (fun _ _ => rfl)] at h
  exact h
/-! ### lists that change -/
theorem oL_cell {G : Hp} {a : Addr} {cs : List Cell} {ds : List PyData} (h : (oL ds).p G a cs) : ∃ vs, cs = [(a, HO.lst vs)] ∧ DqAll G vs ds := h
/-- x.append(e), x an owned list -/
theorem Ex.append {ds : List PyData} {d : PyData} {T : String} (hi : ρ[i]? = some (.o (oL ds))) (he : Ev te ρ (pu (dat d))) (hz : ds.length < 1000000) (hT : T = "list") : Ex W (tDrop (tBM K T rAppend (tVar i) (tCons te tNil))) ρ (.nx (ρ.set i (.o (oL (ds ++ [d]))))) := ⟨fun {G σ L0 H} D s q => by
  obtain ⟨a, cs, e, ⟨vs, hcs, hd⟩, hh, _⟩ := s.get_o hi
  subst hcs
  refine ⟨_, e, .inl ⟨hT, vs, .inl (.inl (hh _ (List.mem_cons_self ..)))⟩, ?_⟩
  refine he.atp s fun G1 H1 v e1 s1 r => ?_
  obtain ⟨a', cs', e', ⟨vs', hcs', hd'⟩, hh', k1, _⟩ := s1.get_o hi
  rw [e] at e'
  injection e' with e'; injection e' with e'; injection e' with e'
  subst e' hcs'
  refine ⟨a, vs', v, rfl, rfl, hh' _ (List.mem_cons_self ..), ?_, ?_⟩
  · rw [dpAll_len hd']; exact Nat.lt_trans hz (by decide)
  · exact q G1 _ _ e1 (k1 (oL (ds ++ [d])) [(a, .lst (vs' ++ [v]))] _ ⟨_, rfl, dpAll_app hd' (.cons r .nil)⟩ fun M l => l.store)⟩
/-- x[k] = e, x an owned list -/
theorem Ex.setitem {ds : List PyData} {d : PyData} {k : Int} {j : Nat} (hi : ρ[i]? = some (.o (oL ds))) (he : Ev te ρ (pu (dat d))) (hk : Ev ta ρ (pu (dI k))) (hj : ixN ds.length k = some j) : Ex W (tAsg te (gSub (tVar i) ta rSetL)) ρ (.nx (ρ.set i (.o (oL (ds.set j d))))) := ⟨fun {G σ L0 H} D s q => he.atp s fun G1 H1 v e1 s1 r => by
  obtain ⟨a, cs, e, _⟩ := s1.get_o hi
  refine ⟨_, e, ?_⟩
  refine hk.atp s1 fun G2 H2 w e2 s2 r2 => ?_
  cases r2
  obtain ⟨a', cs', e', ⟨vs', hcs', hd'⟩, hh', k1, _⟩ := s2.get_o hi
  rw [e] at e'
  injection e' with e'; injection e' with e'; injection e' with e'
  subst e' hcs'
  refine ⟨a, vs', k, j, rfl, rfl, hh' _ (List.mem_cons_self ..), by rw [dpAll_len hd']; exact hj, ?_⟩
  exact q G2 _ _ (e1.trans e2) (k1 (oL (ds.set j d)) [(a, .lst (vs'.set j v))] _ ⟨_, rfl, dpAll_set (dp_up e2 r) j hd'⟩ fun M l => l.store)⟩
/-- x op= e -/
theorem Ex.aug {r : R2} {Ra Rb : Rp} (hi : ρ[i]? = some (.p Ra)) (he : Ev te ρ (pu Rb)) (h : Op2 r (pu Ra) (pu Rb) R) : Ex W (tAug i te r) ρ (.nx (ρ.set i (.p R))) := ⟨fun {G σ L0 H} D s q => by
  obtain ⟨v, e, r1⟩ := s.get_p hi
  refine ⟨v, e, ?_⟩
  refine he.atp s fun G1 H1 w e1 s1 r2 => ?_
  obtain ⟨L, a, b⟩ := id s1
  refine h G1 H1 _ v w _ b (Ra.up e1 r1) r2 fun z rz => ?_
  obtain ⟨G2, e2, s2⟩ := s1.set_p rz i
  exact q G2 _ _ (e1.trans e2) s2⟩
/-! ### slices, + and * -/
structure EvO (to : TO) (ρ : List Sl) (k : Option Int) : Prop where
  run : ∀ {G : Hp} {σ : L2.St} {L0 : List Cell} {H : Hp} (Q : Option Int → Hp → Prop), Stt G ρ σ L0 H → (∀ G' H', Same G G' → Stt G' ρ σ L0 H' → Q k H') → to σ H Q
theorem eo_none : EvO tNoPart ρ none := ⟨fun Q s q => q _ _ (Same.refl _) s⟩
theorem eo_some {k : Int} (h : Ev te ρ (pu (dI k))) : EvO (tPart te) ρ (some k) := ⟨fun Q s q => h.atp s fun G' H' v e s' r => by
  cases r
  exact ⟨k, rfl, q _ _ e s'⟩⟩
def cutD (ds : List PyData) (lo hi : Option Int) : List PyData := (ds.drop (HT.sIx ds.length 0 lo)).take (HT.sIx ds.length ds.length hi - HT.sIx ds.length 0 lo)
theorem cut_all {G : Hp} {vs : List V} {ds : List PyData} (h : DqAll G vs ds) (lo hi : Option Int) : DqAll G (cutV vs lo hi) (cutD ds lo hi) := by
  unfold cutV cutD
  rw [dpAll_len h]
  exact dpAll_take _ (dpAll_drop _ h)
theorem en_sl {tl th : TO} {ds : List PyData} {lo hi : Option Int} (h : Ev te ρ (bL ds)) (h1 : EvO tl ρ lo) (h2 : EvO th ρ hi) : EvN (tSl (rSlL K) te tl th) ρ (cutD ds lo hi) := ⟨fun Q s q =>
  h.run _ s fun G1 H1 v e1 s1 r => h1.run _ s1 fun G2 H2 e2 s2 => h2.run _ s2 fun G3 H3 e3 s3 => by
    obtain ⟨L, a, b⟩ := id s3
    obtain ⟨p, vs, rfl, hv, d⟩ := bl_sq b (r G3 L H3 (e2.trans e3) a b)
    exact ⟨p, vs, rfl, .inl (.inl hv), fun n hn => q G3 H3 n _ ((e1.trans e2).trans e3) s3 hn (cut_all d lo hi)⟩⟩
theorem ev_slT {tl th : TO} {ds : List PyData} {lo hi : Option Int} (h : Ev te ρ (pu (dat (.tuple ds)))) (h1 : EvO tl ρ lo) (h2 : EvO th ρ hi) (hn : ¬ (HT.sIx ds.length 0 lo = 0 ∧ HT.sIx ds.length ds.length hi = ds.length)) : Ev (tSl (rSlT K) te tl th) ρ (pu (dat (.tuple (cutD ds lo hi)))) := Ev.pure fun Q s q =>
  h.run _ s fun G1 H1 v e1 s1 r => h1.run _ s1 fun G2 H2 e2 s2 => h2.run _ s2 fun G3 H3 e3 s3 => by
    obtain ⟨L, a, b⟩ := id s3
    have r : Dq G3 v (.tuple ds) := r G3 L H3 (e2.trans e3) a b
    cases r with
    | @tup _ xs _ hv d =>
      refine ⟨_, _, rfl, .inl (.inl (b.same _ _ hv)), by rw [dpAll_len d]; exact hn, fun n hn => ?_⟩
      have g := s3.grow (o := .tup (cutV xs lo hi)) hn
      exact q _ _ _ (((e1.trans e2).trans e3).trans g.1) g.2 (Dq.tup upd_same (dpAll_up g.1 (cut_all d lo hi)))
theorem o_cat {ds es : List PyData} (hz : ds.length + es.length ≤ 1000000) : Op2N rCat (bL ds) (bL es) (ds ++ es) := fun G H L x y Q l hx hy q => by
  obtain ⟨a, vs, rfl, h, d⟩ := bl_sq l hx
  obtain ⟨b, ws, rfl, k, e⟩ := bl_sq l hy
  exact ⟨a, b, vs, ws, rfl, rfl, h, k, by rw [dpAll_len d, dpAll_len e]; exact Nat.le_trans hz (by decide), fun p hp => q p _ hp (dpAll_app d e)⟩
theorem o_rep {ds : List PyData} {k : Int} (hz : ds.length * k.toNat ≤ 1000000) (h1 : -(2 ^ 63) ≤ k) (h2 : k < 2 ^ 63) : Op2N rRep (bL ds) (pu (dI k)) (List.replicate k.toNat ds).flatten := fun G H L x y Q l hx hy q => by
  obtain ⟨a, vs, rfl, h, d⟩ := bl_sq l hx
  cases hy
  exact ⟨a, k, vs, rfl, rfl, h, h1, h2, by rw [dpAll_len d]; exact Nat.le_trans hz (by decide), fun p hp => q p _ hp (dpAll_rep _ d)⟩
/-! ### builtins -/
abbrev cLen (K : PySem.W.Frag) : List V → Hp → VK → Prop := fun xs H Q => ∃ p ys, xs = [.ref p] ∧ (SqL K H p ys ∨ SqT K H p ys) ∧ Q (.int ys.length) H
theorem cl_len {ds : List PyData} : Cl (cLen K) [bL ds] (dI ds.length) := fun G H L vs Q l r q => by
  cases r with
  | cons h t =>
    cases t
    obtain ⟨a, ws, rfl, hv, d⟩ := bl_sq l h
    refine ⟨a, ws, rfl, .inl (.inl (.inl hv)), q _ ?_⟩
    rw [dpAll_len d]
    exact Dq.int _
abbrev cList (K : PySem.W.Frag) : List V → Hp → VK → Prop := fun xs H Q => ∃ p ys, xs = [.ref p] ∧ (SqL K H p ys ∨ SqT K H p ys) ∧ ∀ l, H l = none → Q (.ref l) (upd H l (.lst ys))
theorem cl_list {ds : List PyData} : ClN (cList K) [bL ds] ds := fun G H L vs Q l r q => by
  cases r with
  | cons h t =>
    cases t
    obtain ⟨a, ws, rfl, hv, d⟩ := bl_sq l h
    exact ⟨a, ws, rfl, .inl (.inl (.inl hv)), fun p hp => q p ws hp d⟩
abbrev cAbs : List V → Hp → VK → Prop := fun xs H Q => ∃ i, xs = [.int i] ∧ Q (.int (if i < 0 then -i else i)) H
theorem cl_abs {n : Int} : Cl cAbs [pu (dI n)] (dI (if n < 0 then -n else n)) := fun G H L vs Q l r q => by
  cases r with
  | cons h t =>
    cases t; cases h
    exact ⟨n, rfl, q _ (Dq.int _)⟩
abbrev cMin2 : List V → Hp → VK → Prop := fun xs H Q => ∃ i j, xs = [.int i, .int j] ∧ Q (.int (if j < i then j else i)) H
theorem cl_min2 {m n : Int} : Cl cMin2 [pu (dI m), pu (dI n)] (dI (if n < m then n else m)) := fun G H L vs Q l r q => by
  cases r with
  | cons h t =>
    cases t with
    | cons h2 t =>
      cases t; cases h; cases h2
      exact ⟨m, n, rfl, q _ (Dq.int _)⟩
abbrev cMax2 : List V → Hp → VK → Prop := fun xs H Q => ∃ i j, xs = [.int i, .int j] ∧ Q (.int (if j > i then j else i)) H
theorem cl_max2 {m n : Int} : Cl cMax2 [pu (dI m), pu (dI n)] (dI (if n > m then n else m)) := fun G H L vs Q l r q => by
  cases r with
  | cons h t =>
    cases t with
    | cons h2 t =>
      cases t; cases h; cases h2
      exact ⟨m, n, rfl, q _ (Dq.int _)⟩
abbrev cInt : List V → Hp → VK → Prop := fun xs H Q => (∃ i, xs = [.int i] ∧ Q (.int i) H) ∨ ∃ k, xs = [.bl k] ∧ Q (.int (if k then 1 else 0)) H
theorem cl_int {n : Int} : Cl cInt [pu (dI n)] (dI n) := fun G H L vs Q l r q => by
  cases r with
  | cons h t =>
    cases t; cases h
    exact .inl ⟨n, rfl, q _ (Dq.int _)⟩
theorem cl_intB {b : Bool} : Cl cInt [pu (dB b)] (dI (if b then 1 else 0)) := fun G H L vs Q l r q => by
  cases r with
  | cons h t =>
    cases t; cases h
    exact .inr ⟨b, rfl, q _ (Dq.int _)⟩
theorem cl_sum {ns : List Int} : Cl (rSum K) [bL (ns.map PyData.int)] (dI ns.sum) := fun G H L vs Q l r q => by
  cases r with
  | cons h t =>
    cases t
    obtain ⟨a, ws, rfl, hv, d⟩ := bl_sq l h
    rw [dpAll_ints d] at hv
    exact ⟨a, ns, rfl, .inl (.inl hv), q _ (Dq.int _)⟩
theorem cl_any {bs : List Bool} : Cl (rAny K) [bL (bs.map PyData.bool)] (dB (bs.any id)) := fun G H L vs Q l r q => by
  cases r with
  | cons h t =>
    cases t
    obtain ⟨a, ws, rfl, hv, d⟩ := bl_sq l h
    rw [dpAll_bools d] at hv
    exact ⟨a, bs, rfl, .inl (.inl hv), q _ (Dq.bl _)⟩
theorem cl_all {bs : List Bool} : Cl (rAll K) [bL (bs.map PyData.bool)] (dB (bs.all id)) := fun G H L vs Q l r q => by
  cases r with
  | cons h t =>
    cases t
    obtain ⟨a, ws, rfl, hv, d⟩ := bl_sq l h
    rw [dpAll_bools d] at hv
    exact ⟨a, bs, rfl, .inl (.inl hv), q _ (Dq.bl _)⟩
/-! x in (a, b), x in [a, b]: ints -/
theorem flat_ints : ∀ ns : List Int, (ns.map V.int).all flatV = true
  | [] => rfl
  | n :: ns => by
    rw [List.map_cons, List.all_cons, flat_ints ns]; rfl
theorem inV_ints (n : Int) : ∀ ns : List Int, inV (.int n) (ns.map V.int) = decide (n ∈ ns)
  | [] => rfl
  | m :: ns => by
    show ((m :: ns).map V.int).any _ = _
    rw [List.map_cons, List.any_cons]
    have ih := inV_ints n ns
    unfold inV at ih
    rw [ih]
    have e : eqV (V.int m) (V.int n) = decide (n = m) := by
      show (m == n) = decide (n = m)
      by_cases h : m = n
      · subst h; simp
      · have h' : ¬ n = m := fun z => h z.symm
        simp [h, h']
    rw [e]
    by_cases h : n = m
    · simp [h]
    · simp [h]
theorem o_inT {n : Int} {ns : List Int} : Op2 (rIn K false) (pu (dI n)) (pu (dat (.tuple (ns.map PyData.int)))) (dB (decide (n ∈ ns))) := fun G H L x y Q l hx hy q => by
  cases hx
  have hy : Dq G y (.tuple (ns.map PyData.int)) := hy
  cases hy with
  | tup h d =>
    rw [dpAll_ints d] at h
    refine ⟨_, _, rfl, .inr (.inl (.inl (l.same _ _ h))), rfl, flat_ints ns, q _ ?_⟩
    show Dq G (.bl (inV _ _)) _
    rw [inV_ints]
    exact Dq.bl _
theorem o_inL {n : Int} {ns : List Int} : Op2 (rIn K false) (pu (dI n)) (bL (ns.map PyData.int)) (dB (decide (n ∈ ns))) := fun G H L x y Q l hx hy q => by
  cases hx
  obtain ⟨a, ws, rfl, hv, d⟩ := bl_sq l hy
  rw [dpAll_ints d] at hv
  refine ⟨_, _, rfl, .inl (.inl (.inl hv)), rfl, flat_ints ns, q _ ?_⟩
  show Dq G (.bl (inV _ _)) _
  rw [inV_ints]
  exact Dq.bl _
theorem o_notInL {n : Int} {ns : List Int} : Op2 (rIn K true) (pu (dI n)) (bL (ns.map PyData.int)) (dB (!decide (n ∈ ns))) := fun G H L x y Q l hx hy q => by
  cases hx
  obtain ⟨a, ws, rfl, hv, d⟩ := bl_sq l hy
  rw [dpAll_ints d] at hv
  refine ⟨_, _, rfl, .inl (.inl (.inl hv)), rfl, flat_ints ns, q _ ?_⟩
  show Dq G (.bl (!inV _ _)) _
  rw [inV_ints]
  exact Dq.bl _
/-- is None -/
def isNone : PyData → Bool
  | .none => true
  | _ => false
theorem o_isN {d : PyData} : Op2 (fun x y H Q => y = .non ∧ Q (.bl (decide (x = .non))) H) (pu (dat d)) (pu (dat .none)) (dB (isNone d)) := fun G H L x y Q l hx hy q => by
  have hx : Dq G x d := hx
  cases hy
  refine ⟨rfl, q _ ?_⟩
  cases hx <;> exact Dq.bl _
theorem o_notN {d : PyData} : Op2 (fun x y H Q => y = .non ∧ Q (.bl (!decide (x = .non))) H) (pu (dat d)) (pu (dat .none)) (dB (!isNone d)) := fun G H L x y Q l hx hy q => by
  have hx : Dq G x d := hx
  cases hy
  refine ⟨rfl, q _ ?_⟩
  cases hx <;> exact Dq.bl _
end
end Z

set_option Elab.async false
set_option linter.all false
set_option maxRecDepth 100000
set_option maxHeartbeats 2000000
/-! Ze: promises, calls, errors, instances. -/
namespace Z
open PySem PySem.Spec PyProof.Rows L2
/-! ### promises -/
inductive Res where
  | ok (R : Rp) | own (O : Op) | err (C : Addr) (n : Int)
def ResP (Q : VK) (E : XK) (G : Hp) (L : List Cell) : Res → Prop
  | .ok R => ∀ G' H' v, Same G G' → Lay G' L H' → R.p G' v → Q v H'
  | .own O => ∀ G' H' a cs, Same G G' → Lay G' (cs ++ L) H' → O.p G' a cs → Q (.ref a) H'
  | .err C n => ∀ G' H' d, Same G G' → Lay G' L H' → H' d = none → E (.ref C) (some d) (upd H' d (atF n))
/-- from arguments A x to the result R x, wherever pre x -/
def SpA {α : Type} (pre : α → Prop) (A : α → List Bw) (R : α → Res) : Sp := fun vs H Q E => ∃ x G L, pre x ∧ Lay G L H ∧ AllB G L vs (A x) ∧ ResP Q E G L (R x)
theorem allB_len {G : Hp} {L : List Cell} : ∀ {vs : List V} {Bs : List Bw}, AllB G L vs Bs → vs.length = Bs.length
  | _, _, .nil => rfl
  | _, _, .cons _ t => by simp [allB_len t]
theorem SpA.len {α : Type} {pre : α → Prop} {A : α → List Bw} {R : α → Res} {n : Nat} (h : ∀ x, (A x).length = n) : ∀ vs H Q E, SpA pre A R vs H Q E → vs.length = n := fun vs H Q E ⟨x, G, L, _, _, a, _⟩ => by
  rw [allB_len a, h]
/-- the slots at a def's start -/
def st0 (Bs : List Bw) (k : Nat) : List Sl := Bs.map Sl.b ++ List.replicate k Sl.x
def Res.out (ρ : List Sl) : Res → Out
  | .ok R => .rt R
  | .own O => .ro O
  | .err C n => .xc ρ C n
theorem slots_x {G : Hp} {L0 : List Cell} : ∀ k, Slots G L0 (List.replicate k none) (List.replicate k Sl.x) []
  | 0 => .nil
  | k + 1 => .x (slots_x k)
theorem slots_start {G : Hp} {L0 : List Cell} (k : Nat) : ∀ {vs : List V} {Bs : List Bw}, AllB G L0 vs Bs → Slots G L0 (vs.map some ++ List.replicate k none) (st0 Bs k) []
  | _, _, .nil => slots_x k
  | _, _, .cons h t => .b h (slots_start k t)
abbrev WofE (E : XK) : WX := fun cls d _ H => E cls d H
theorem SpA.run {α : Type} {pre : α → Prop} {A : α → List Bw} {R : α → Res} {vs : List V} {H : Hp} {Q : VK} {E : XK} {t : TS} {N : List Str} {m : Nat} (h : SpA pre A R vs H Q E) (hm : ∀ x, (A x).length = m)
    (hx : ∀ x, pre x → ∃ ρ, Ex (WofE E) t (st0 (A x) (N.length - m)) ((R x).out ρ)) : t { nx := fun _ H' => Q .non H', rt := Q } (L2.start N vs) H := by
  obtain ⟨x, G, L, hp, la, a, r⟩ := h
  obtain ⟨ρ, ex⟩ := hx x hp
  have hl : vs.length = m := by rw [allB_len a, hm]
  have sl := slots_start (N.length - m) a
  refine ex.run _ (show Stt G _ (L2.start N vs) L H from ⟨[], by unfold L2.start; rw [hl]; exact sl, la⟩) ?_
  cases hR : R x with
  | ok R' =>
    rw [hR] at r
    intro G' ρ' σ' H' v e s rv
    obtain ⟨G2, e2, l2⟩ := s.fin
    exact r G2 H' v (e.trans e2) l2 (R'.up e2 rv)
  | own O =>
    rw [hR] at r
    intro G' H' a cs e l ro
    exact r G' H' a cs e l ro
  | err C n =>
    rw [hR] at r
    intro G' σ' H' d e s hd
    obtain ⟨G2, e2, l2⟩ := s.fin
    exact r G2 H' d (e.trans e2) l2 hd
/-- a body that runs out: None -/
theorem SpA.runN {α : Type} {pre : α → Prop} {A : α → List Bw} {R : α → Res} {vs : List V} {H : Hp} {Q : VK} {E : XK} {t : TS} {N : List Str} {m : Nat} (h : SpA pre A R vs H Q E) (hm : ∀ x, (A x).length = m)
    (hx : ∀ x, pre x → ∃ ρ, (R x = .ok (dat .none) ∧ Ex (WofE E) t (st0 (A x) (N.length - m)) (.nx ρ)) ∨ Ex (WofE E) t (st0 (A x) (N.length - m)) ((R x).out ρ)) : t { nx := fun _ H' => Q .non H', rt := Q } (L2.start N vs) H := by
  obtain ⟨x, G, L, hp, la, a, r⟩ := h
  obtain ⟨ρ, ex⟩ := hx x hp
  rcases ex with ⟨hr, ex⟩ | ex
  · have hl : vs.length = m := by rw [allB_len a, hm]
    have sl := slots_start (N.length - m) a
    refine ex.run _ (show Stt G _ (L2.start N vs) L H from ⟨[], by unfold L2.start; rw [hl]; exact sl, la⟩) fun G' σ' H' e s => ?_
    rw [hr] at r
    obtain ⟨G2, e2, l2⟩ := s.fin
    exact r G2 H' .non (e.trans e2) l2 Dq.non
  · exact SpA.run (pre := fun y => y = x) (A := A) (R := R) (m := m) ⟨x, G, L, rfl, la, a, r⟩ hm fun y hy => ⟨ρ, by rw [hy]; exact ex⟩
section
variable {K : PySem.W.Frag} {W : WX} {ρ ρ' ρ1 : List Sl} {te ta tb : TE} {t u : TS} {tr : TA} {R : Rp} {B : Bw} {o : Out} {i : Nat} {α : Type} {pre : α → Prop} {A : α → List Bw} {F : α → Res} {E : XK} {C : Addr} {n : Int}
/-! ### calls -/
theorem ev_call (x : α) (ha : EvA tr ρ (A x)) (hp : pre x) (hR : F x = .ok R) : Ev (tCall (SpA pre A F) [] E tr) ρ (pu R) := Ev.pure fun {G σ L0 H} Q s q => ha.at s fun G1 H1 vs L e1 sl la r => by
  refine ⟨x, G1, L ++ L0, hp, la, by rw [List.append_nil]; exact r, ?_⟩
  rw [hR]
  exact fun G2 H2 v e2 l2 rv => q G2 H2 v (e1.trans e2) ⟨L, sl.up e2, l2⟩ rv
/-- a call that hands over a new list -/
theorem en_call {ds : List PyData} (x : α) (ha : EvA tr ρ (A x)) (hp : pre x) (hR : F x = .own (oL ds)) : EvN (tCall (SpA pre A F) [] E tr) ρ ds := ⟨fun {G σ L0 H} Q s q => ha.at s fun G1 H1 vs L e1 sl la r => by
  refine ⟨x, G1, L ++ L0, hp, la, by rw [List.append_nil]; exact r, ?_⟩
  rw [hR]
  intro G2 H2 a cs e2 l2 ro
  obtain ⟨ws, hcs, d⟩ := ro
  subst hcs
  have hne := l2.ne
  have eH : H2 = upd (fun b => if b = a then none else H2 b) a (.lst ws) := by
    funext b
    by_cases hb : b = a
    · rw [hb, upd_same]; exact (l2.on _ (List.mem_cons_self ..)).1
    · rw [upd_ne hb, if_neg hb]
  have l3 : Lay G2 (L ++ L0) (fun b => if b = a then none else H2 b) := by
    refine ⟨fun b hb => ?_, fun c hc => ?_, ?_⟩
    · by_cases h : b = a
      · rw [h, if_pos rfl]; exact ((l2.on _ (List.mem_cons_self ..)).2).symm
      · rw [if_neg h]
        refine l2.off b fun c hc => ?_
        rcases List.mem_cons.mp hc with z | z
        · subst z; exact fun z => h z.symm
        · exact hb c z
    · rw [if_neg (hne c hc)]; exact l2.on c (List.mem_cons_of_mem _ hc)
    · have := l2.nd
      rw [List.singleton_append, List.map_cons, List.nodup_cons] at this
      exact this.2
  rw [eH]
  exact q G2 _ a ws (e1.trans e2) ⟨L, sl.up e2, l3⟩ (if_pos rfl) d⟩
/-- an expression that raises -/
structure EvX (W : WX) (te : TE) (ρ : List Sl) (C : Addr) (n : Int) : Prop where
  run : ∀ {G : Hp} {σ : L2.St} {L0 : List Cell} {H : Hp} (Q : VK), Stt G ρ σ L0 H → (∀ G' H' d, Same G G' → Stt G' ρ σ L0 H' → H' d = none → W (.ref C) (some d) σ (upd H' d (atF n))) → te σ H Q
theorem ex_call (x : α) (ha : EvA tr ρ (A x)) (hp : pre x) (hR : F x = .err C n) : EvX (WofE E) (tCall (SpA pre A F) [] E tr) ρ C n := ⟨fun {G σ L0 H} Q s q => ha.at s fun G1 H1 vs L e1 sl la r => by
  refine ⟨x, G1, L ++ L0, hp, la, by rw [List.append_nil]; exact r, ?_⟩
  rw [hR]
  exact fun G2 H2 d e2 l2 hd => q G2 H2 d (e1.trans e2) ⟨L, sl.up e2, l2⟩ hd⟩
/-- in a try -/
theorem ev_callS {E : L2.St → XK} (x : α) (ha : EvA tr ρ (A x)) (hp : pre x) (hR : F x = .ok R) : Ev (tCallS (SpA pre A F) E tr) ρ (pu R) := Ev.pure fun {G σ L0 H} Q s q => ha.at s fun G1 H1 vs L e1 sl la r => by
  refine ⟨x, G1, L ++ L0, hp, la, r, ?_⟩
  rw [hR]
  exact fun G2 H2 v e2 l2 rv => q G2 H2 v (e1.trans e2) ⟨L, sl.up e2, l2⟩ rv
theorem ex_callS (x : α) (ha : EvA tr ρ (A x)) (hp : pre x) (hR : F x = .err C n) : EvX W (tCallS (SpA pre A F) (WE W) tr) ρ C n := ⟨fun {G σ L0 H} Q s q => ha.at s fun G1 H1 vs L e1 sl la r => by
  refine ⟨x, G1, L ++ L0, hp, la, r, ?_⟩
  rw [hR]
  exact fun G2 H2 d e2 l2 hd => q G2 H2 d (e1.trans e2) ⟨L, sl.up e2, l2⟩ hd⟩
theorem Ex.dropX (h : EvX W te ρ C n) : Ex W (tDrop te) ρ (.xc ρ C n) := ⟨fun D s q => h.run _ s fun G' H' d e s' hd => q G' _ H' d e s' hd⟩
theorem Ex.asgX {g : TG} (h : EvX W te ρ C n) : Ex W (tAsg te g) ρ (.xc ρ C n) := ⟨fun D s q => h.run _ s fun G' H' d e s' hd => q G' _ H' d e s' hd⟩
theorem Ex.retX (h : EvX W te ρ C n) : Ex W (tRet te) ρ (.xc ρ C n) := ⟨fun D s q => h.run _ s fun G' H' d e s' hd => q G' _ H' d e s' hd⟩
/-! ### errors with one field, at -/
/-- what __init__ of the errors promises -/
def spAt (K : PySem.W.Frag) : Sp := fun vs H Q _ => ∃ (a C : Addr) (n : Int), vs = [.ref a, .int n] ∧ OexC K C ∧ PySem.W.findIn K (.ref C) "at" = some none ∧ H a = some (exo a C none) ∧
  ∀ dx, H dx = none → dx ≠ a → Q .non (upd (upd H dx (exd dx [(("at" : Str), V.int n)])) a (exo a C (some dx)))
/-- self.at = at -/
theorem pure_at (vs : List V) (H : Hp) (Q : VK) (E : XK) (h : spAt K vs H Q E) : tOst K "at" (tVar 0) (tVar 1) { nx := fun _ H' => Q .non H', rt := Q } (L2.start ["self", "at"] vs) H := by
  obtain ⟨a, C, n, rfl, hC, hn, ha, q⟩ := h
  exact ⟨_, rfl, _, rfl, a, C, rfl, hC, hn, .inl ⟨ha, fun dx hd hne => q dx hd hne⟩⟩
/-- raise C(e) -/
theorem Ex.raise_ {tr : TA} (ha : EvA tr ρ [pu (dI n)]) (hC : OexC K C) (hn : PySem.W.findIn K (.ref C) "at" = some none) : Ex W (fun _ σ H => tMkO C (spAt K) [] tr σ H fun cls d H' => W cls d σ H') ρ (.xc ρ C n) := ⟨fun {G σ L0 H} D s q => ha.at s fun G1 H1 vs L e1 sl la r => by
  cases r with
  | cons h1 h2 =>
    cases h2; cases h1
    refine ⟨(by show 1 ≤ 1000; decide), fun a hA => ⟨a, C, n, rfl, hC, hn, upd_same, fun dx hd hne => ⟨rfl, dx, [(("at" : Str), V.int n)], upd_same, ?_, ?_, ?_⟩⟩⟩
    · rw [upd_ne hne, upd_same]
    · rw [upd_ne hne] at hd
      exact hd
    · rw [upd_ne hne] at hd
      have e : upd (del (upd (upd (upd H1 a (exo a C none)) dx (exd dx [(("at" : Str), V.int n)])) a (exo a C (some dx))) a) dx (.xd [(("at" : Str), V.int n)]) = upd H1 dx (atF n) := by
        funext b
        by_cases hb : b = dx
        · rw [hb, upd_same, upd_same]; rfl
        · rw [upd_ne hb, upd_ne hb]
          by_cases hba : b = a
          · rw [hba, del_same]; exact hA.symm
          · rw [del_ne hba, upd_ne hba, upd_ne hb, upd_ne hba]
      rw [e]
      exact q G1 σ H1 dx e1 ⟨L, sl, la⟩ hd⟩
/-! ### try .. except C as e -/
/-- the error that a suite holds: at a, its dict at d, its field -/
def errR (a d : Addr) (n : Int) : Rp := ⟨fun G v => v = .ref a ∧ G d = some (atF n), fun e h => ⟨h.1, e _ _ h.2⟩⟩
def noSlot (i : Nat) : Out → Out
  | .nx ρ => .nx (ρ.set i .x)
  | .bk ρ => .bk (ρ.set i .x)
  | .ct ρ => .ct (ρ.set i .x)
  | .go ρ => .go (ρ.set i .x)
  | o => o
theorem Stt.set_none {G H : Hp} {σ : L2.St} {L0 : List Cell} (s : Stt G ρ σ L0 H) (i : Nat) : ∃ G', Same G G' ∧ Stt G' (ρ.set i .x) (σ.set i none) L0 H := by
  have w : Wk ρ (ρ.set i .x) := by
    have : ∀ (ρ : List Sl) (i : Nat), Wk ρ (ρ.set i .x) := by
      intro ρ
      induction ρ with
      | nil => intro i; exact .nil
      | cons s ρ ih =>
        intro i
        cases i with
        | zero => exact .x (Wk.refl ρ)
        | succ i => exact .k (ih i)
    exact this ρ i
  obtain ⟨G', e, L, sl, la⟩ := s.weak w
  refine ⟨G', e, L, sl.agree (by simp) fun j hj => ?_, la⟩
  by_cases h : i = j
  · subst h
    by_cases hl : i < ρ.length
    · exact absurd (by simp [hl]) hj
    · have hlen : σ.length = ρ.length := s.len
      rw [List.getElem?_eq_none (by simp; omega), List.getElem?_eq_none (by omega)]
  · rw [List.getElem?_set_ne h]
end
end Z

set_option Elab.async false
set_option linter.all false
set_option maxRecDepth 100000
set_option maxHeartbeats 2000000
/-! Zf: try, what a suite asks of the error, instances, repr. -/
namespace Z
open PySem PySem.Spec PyProof.Rows L2
section
variable {K : PySem.W.Frag} {W : WX} {ρ ρ' ρ1 : List Sl} {te ta tb : TE} {t u : TS} {tr : TA} {R : Rp} {B : Bw} {o : Out} {i : Nat} {α : Type} {pre : α → Prop} {A : α → List Bw} {F : α → Res} {E : XK} {C : Addr} {n : Int}
def Out.quiet : Out → Bool
  | .xc _ _ _ => false
  | _ => true
theorem Post.anyW {W W' : WX} {D : Ends} {G : Hp} {L0 : List Cell} {o : Out} (h : o.quiet = true) (q : Post W D G L0 o) : Post W' D G L0 o := by
  cases o with
  | xc _ _ _ => cases h
  | nx _ => exact q
  | bk _ => exact q
  | ct _ => exact q
  | go _ => exact q
  | rt _ => exact q
  | ro _ => exact q
/-- the body raises nothing -/
theorem Ex.try_ok {c : Value} {ts : Addr → Value → Option Addr → TS} {tb : WX → TS} (h : ∀ W, Ex W (tb W) ρ o) (hq : o.quiet = true) : Ex W (fun D σ H => tb (wAs K c i ts W D) D σ H) ρ o :=
  ⟨fun D s q => (h _).run D s (q.anyW hq)⟩
theorem Post.slot {D : Ends} {G : Hp} {L0 : List Cell} (q : Post W D G L0 (noSlot i o)) : Post W { nx := fun σ' H' => D.nx (σ'.set i none) H', rt := D.rt, bk := fun σ' H' => D.bk (σ'.set i none) H', ct := fun σ' H' => D.ct (σ'.set i none) H' } G L0 o := by
  have key : ∀ {N : L2.St → Hp → Prop} {ρ : List Sl}, Nx N G L0 (ρ.set i .x) → Nx (fun σ' H' => N (σ'.set i none) H') G L0 ρ := fun {N ρ} k G' σ' H' e s => by
    obtain ⟨G2, e2, s2⟩ := s.set_none i
    exact k G2 _ H' (e.trans e2) s2
  cases o with
  | xc _ _ _ => exact q
  | nx _ => exact key q
  | bk _ => exact key q
  | ct _ => exact key q
  | go _ => exact ⟨key q.1, key q.2⟩
  | rt _ => exact q
  | ro _ => exact q
/-- the body raises an error of the class at C, which the clause takes -/
theorem Ex.try_x {c : Value} {ts : Addr → Value → Option Addr → TS} {tb : WX → TS} (h : ∀ W, Ex W (tb W) ρ (.xc ρ1 C n)) (hm : PySem.W.exmOne K (.ref C) c = some true)
    (hs : ∀ a d, Ex W (ts a (.ref C) (some d)) (ρ1.set i (.p (errR a d n))) o) : Ex W (fun D σ H => tb (wAs K c i ts W D) D σ H) ρ (noSlot i o) :=
  ⟨fun D s q => (h _).run D s fun G' σ' H' d e s' hd => ⟨true, hm, fun _ a ha => by
    have g := s'.grow (o := atF n) hd
    obtain ⟨G2, e2, s2⟩ := g.2.set_p (R := errR a d n) ⟨rfl, upd_same⟩ i
    exact (hs a d).run _ s2 (q.slot.mono ((e.trans g.1).trans e2)), fun z => nomatch z⟩⟩
/-! isinstance(e, C), e.at -/
/-- isinstance of the error that a suite holds, the class told in the reading -/
def rIsX (K : PySem.W.Frag) (a : Addr) (cls : Value) (d : Option Addr) : List V → Hp → VK → Prop := fun xs H Q => ∃ (C dd : Addr) (fs : List (Str × V)) (D : Addr) (b : Bool), cls = .ref C ∧ d = some dd ∧ ExcC K C ∧ H dd = some (.xd fs) ∧ xs = [.ref a, .ref D] ∧
  PySem.W.kitOne K (.ref C) (.ref D) = some b ∧ Q (.bl b) H
theorem call_isX {X : Cx} {a : Addr} {oe : Obj} {cls : Value} {d : Option Addr} {pn : List (Addr × Obj)} (hz : Zc cls d oe) (hf : ∃ vs, oe.data = .fields vs) : CallR (X.suite a ((a, oe) :: pn)) (.builtin "isinstance") (rIsX X.K a cls d) := by
  intro pins s σ H xs us Q inv r h
  obtain ⟨C, dd, fs, D, b, rfl, rfl, hC, hdd, rfl, hk, q⟩ := h
  cases r with
  | cons r1 r2 =>
    cases r2 with
    | cons r2 r3 =>
      cases r3; cases r1; cases r2
      have ho := (inv.pin (a, oe) (List.mem_append_left _ (List.mem_cons_self ..))).1
      obtain ⟨vs, hv⟩ := hf
      obtain ⟨mA, hns, _⟩ := (show ObjOk X.prog X.w H s.heap dd (.xd fs) from inv.hok dd _ hdd)
      obtain ⟨od, hod, _⟩ := lookIn_ns hns
      have inst : PySem.W.InstAt s.heap a oe C (some od) := ⟨ho, hz.1, by unfold PySem.W.notCls; rw [hv] <;> rfl, by rw [hz.2]; exact hod⟩
      have hcl : (PySem.W.clsIn X.K C).isSome = true := by
        have z := hC.hd
        unfold PySem.W.hasDictIn at z
        cases e : PySem.W.clsIn X.K C with
        | none => rw [e] at z; cases z
        | some _ => rfl
      exact PySem.W.kia_one (PySem.W.kitx_exc hcl hC.hg hC.hk hC.hs hC.ha hC.hn hC.ht hC.hm) inv.kIn inst hk (fun z => nomatch z) fun tk => ⟨.bl b, H, inv.kept (t' := tk) fun _ _ z => z, rfl, q⟩
/-- e.f of the error that a suite holds, its class told in the reading; e a name -/
def tXg (K : PySem.W.Frag) (a : Addr) (cls : Value) (d : Option Addr) (f : Str) (i : Nat) : TE := fun σ H Q => ∃ (C dd : Addr) (fs : List (Str × V)) (v : V), σ[i]? = some (some (.ref a)) ∧ cls = .ref C ∧ d = some dd ∧ XfC K C ∧
  PySem.W.findIn K (.ref C) f = some none ∧ H dd = some (.xd fs) ∧ fs.lookup f = some v ∧ Q v H
theorem pe_xg {X : Cx} {a : Addr} {oe : Obj} {cls : Value} {d : Option Addr} {pn : List (Addr × Obj)} {x n : Str} {i : Nat} {pos pos' : Pos} (hz : Zc cls d oe) (hf : ∃ vs, oe.data = .fields vs) (he : PE (X.suite a ((a, oe) :: pn)) (.Name x pos') (tVar i))
    (hb : attributeBase (.Name x pos') n X.env (eval (.Name x pos') X.env) = eval (.Name x pos') X.env := by rfl) : PE (X.suite a ((a, oe) :: pn)) (.Attribute (.Name x pos') n pos) (tXg X.K a cls d n i) := by
  refine ⟨fun pins s σ H Q inv h => ?_⟩
  obtain ⟨C, dd, fs, v, hs, rfl, rfl, hC, hno, hdd, hl, q⟩ := h
  exact (pe_xf (C := C) (n := n) hC hno hz hf he hb).run pins s σ H Q inv ⟨_, hs, rfl, rfl, dd, fs, v, rfl, hdd, hl, q⟩
theorem ev_at {a d : Addr} (hi : ρ[i]? = some (.p (errR a d n))) (hC : XfC K C) (hn : PySem.W.findIn K (.ref C) "at" = some none) : Ev (tXg K a (.ref C) (some d) "at" i) ρ (pu (dI n)) := Ev.pure fun {G σ L0 H} Q s q => by
  obtain ⟨v, e, rfl, hd⟩ := s.get_p hi
  refine ⟨C, d, _, .int n, e, rfl, rfl, hC, hn, s.same _ _ hd, by rfl, q _ _ _ (Same.refl _) s (Dq.int n)⟩
/-- the class a name stands for -/
def clsR (C : Addr) : Rp := ⟨fun _ v => v = .ref C, fun _ h => h⟩
theorem ev_cls : Ev (tC (.ref C)) ρ (pu (clsR C)) := Ev.pure fun Q s q => q _ _ _ (Same.refl _) s rfl
theorem ev_isX {a d : Addr} {D : Addr} {b : Bool} (hi : ρ[i]? = some (.p (errR a d n))) (hC : ExcC K C) (hk : PySem.W.kitOne K (.ref C) (.ref D) = some b) : Ev (tCB (rIsX K a (.ref C) (some d)) (tCons (tVar i) (tCons (tC (.ref D)) tNil))) ρ (pu (dB b)) := Ev.pure fun {G σ L0 H} Q s q => by
  obtain ⟨v, e, rfl, hd⟩ := s.get_p hi
  exact ⟨_, e, C, d, _, D, b, rfl, rfl, hC, s.same _ _ hd, rfl, hk, q _ _ _ (Same.refl _) s (Dq.bl b)⟩
/-! ### instances -/
inductive Flds (G : Hp) : List (Str × V) → List (Str × Rp) → Prop
  | nil : Flds G [] []
  | cons {f : Str} {v : V} {R : Rp} {fv fs} : R.p G v → Flds G fv fs → Flds G ((f, v) :: fv) ((f, R) :: fs)
theorem Flds.up {G G' : Hp} (e : Same G G') : ∀ {fv fs}, Flds G fv fs → Flds G' fv fs
  | _, _, .nil => .nil
  | _, _, .cons h t => .cons (Rp.up _ e h) (t.up e)
theorem Flds.get {G : Hp} {f : Str} {R : Rp} : ∀ {fv fs}, Flds G fv fs → fs.lookup f = some R → ∃ v, fv.lookup f = some v ∧ R.p G v
  | _, _, .nil, h => by cases h
  | _, _, .cons (f := g) (v := v) (R := R') (fs := fs) q t, h => by
    unfold List.lookup at h ⊢
    cases e : f == g with
    | true =>
      rw [e] at h
      cases h
      exact ⟨v, rfl, q⟩
    | false =>
      rw [e] at h
      exact t.get h
theorem Flds.no {G : Hp} {f : Str} : ∀ {fv fs}, Flds G fv fs → fs.lookup f = none → fv.lookup f = none
  | _, _, .nil, _ => rfl
  | _, _, .cons (f := g) (fs := fs) q t, h => by
    unfold List.lookup at h ⊢
    cases e : f == g with
    | true => rw [e] at h; cases h
    | false =>
      rw [e] at h
      exact t.no h
/-- an instance that stays -/
def insR (C : Addr) (fs : List (Str × Rp)) : Rp := ⟨fun G v => ∃ a dx fv, v = .ref a ∧ G a = some (.ins C dx fv) ∧ Flds G fv fs, fun e h => by
  obtain ⟨a, dx, fv, h1, h2, h3⟩ := h
  exact ⟨a, dx, fv, h1, e _ _ h2, h3.up e⟩⟩
/-- an instance that is being made -/
def oI (C a : Addr) (fs : List (Str × Rp)) : Op := ⟨fun G b cs => ∃ dx fv, b = a ∧ cs = [(a, HO.ins C dx fv)] ∧ Flds G fv fs, fun e h => by
  obtain ⟨dx, fv, h0, h1, h3⟩ := h
  exact ⟨dx, fv, h0, h1, h3.up e⟩⟩
theorem ev_fld {f : Str} {fs : List (Str × Rp)} (h : Ev te ρ (pu (insR C fs))) (hf : fs.lookup f = some R) (c : Cls K C) (hn : NoAttr K C f) : Ev (tFld K te f) ρ (pu R) := Ev.pure fun {G σ L0 H} Q s q => h.atp s fun G1 H1 v e1 s1 r => by
  obtain ⟨a, dx, fv, rfl, ha, hfl⟩ := r
  obtain ⟨w, hw, rw⟩ := hfl.get hf
  exact ⟨a, C, dx, fv, w, rfl, s1.same _ _ ha, c, hn, hw, q G1 H1 w e1 s1 rw⟩
/-- self.f = e in an __init__, self in slot i -/
theorem putF_new {f : Str} {v : V} : ∀ {fv : List (Str × V)}, fv.lookup f = none → putF f v fv = fv ++ [(f, v)]
  | [], _ => rfl
  | (g, w) :: fv, h => by
    unfold List.lookup at h
    cases e : f == g with
    | true => rw [e] at h; cases h
    | false =>
      rw [e] at h
      have hne : ¬ g = f := fun z => by rw [z] at e; simp at e
      show (if g = f then _ else _) = _
      rw [if_neg hne, putF_new h]
      rfl
theorem flds_app {G : Hp} {f : Str} {v : V} {R : Rp} (r : R.p G v) : ∀ {fv fs}, Flds G fv fs → Flds G (fv ++ [(f, v)]) (fs ++ [(f, R)])
  | _, _, .nil => .cons r .nil
  | _, _, .cons q t => .cons q (flds_app r t)
theorem flds_len {G : Hp} : ∀ {fv fs}, Flds G fv fs → fv.length = fs.length
  | _, _, .nil => rfl
  | _, _, .cons _ t => by simp [flds_len t]
theorem Ex.setfld {a : Addr} {f : Str} {fs : List (Str × Rp)} (hi : ρ[i]? = some (.o (oI C a fs))) (he : Ev te ρ (pu R)) (hf : fs.lookup f = none) (hz : fs.length < 1000) (c : Cls K C) (hn : NoAttr K C f) : Ex W (sFld K (tVar i) te f) ρ (.nx (ρ.set i (.o (oI C a (fs ++ [(f, R)]))))) := ⟨fun {G σ L0 H} D s q => he.atp s fun G1 H1 v e1 s1 r => by
  obtain ⟨a', cs, e, ⟨dx, fv, ha, hcs, hfl⟩, hh, k1, _⟩ := s1.get_o hi
  subst hcs ha
  refine ⟨_, e, _, C, dx, fv, rfl, hh _ (List.mem_cons_self ..), c, hn, by rw [flds_len hfl]; exact hz, ?_⟩
  rw [putF_new (hfl.no hf)]
  exact q G1 _ _ e1 (k1 (oI C _ (fs ++ [(f, R)])) [(_, .ins C dx (fv ++ [(f, v)]))] _ ⟨dx, _, rfl, rfl, flds_app r hfl⟩ fun M l => l.store)⟩
end
/-- what __init__ promises: fields F, or an error; its further arguments by A -/
inductive IRes where
  | ok (fs : List (Str × Rp)) | err (C : Addr) (n : Int)
def SpI {α : Type} (C : Addr) (pre : α → Prop) (A : α → List Bw) (F : α → IRes) : Sp := fun vs H Q E => ∃ x G L a dx ws, pre x ∧ vs = V.ref a :: ws ∧ Lay G ((a, HO.ins C dx []) :: L) H ∧ AllB G L ws (A x) ∧
  match F x with
  | .ok fs => ∀ G' H' dx fv, Same G G' → Lay G' ((a, HO.ins C dx fv) :: L) H' → Flds G' fv fs → Q .non H'
  | .err D n => ∀ G' H' d, Same G G' → Lay G' L H' → H' d = none → E (.ref D) (some d) (upd H' d (atF n))
section
variable {K : PySem.W.Frag} {W : WX} {ρ ρ' ρ1 : List Sl} {te ta tb : TE} {t u : TS} {tr : TA} {R : Rp} {B : Bw} {o : Out} {i : Nat} {α : Type} {pre : α → Prop} {A : α → List Bw} {F : α → IRes} {E : XK} {C D : Addr} {n : Int}
theorem SpI.len {m : Nat} (h : ∀ x, (A x).length = m) : ∀ vs H Q E, SpI C pre A F vs H Q E → vs.length = m + 1 := fun vs H Q E ⟨x, G, L, a, dx, ws, _, e, _, al, _⟩ => by
  rw [e, List.length_cons, allB_len al, h]
def stI (C a : Addr) (Bs : List Bw) (k : Nat) : List Sl := .o (oI C a []) :: (Bs.map Sl.b ++ List.replicate k Sl.x)
theorem SpI.run {vs : List V} {H : Hp} {Q : VK} {t : TS} {N : List Str} {m : Nat} (h : SpI C pre A F vs H Q E) (hm : ∀ x, (A x).length = m)
    (hx : ∀ x a, pre x → (∃ fs ρ, F x = .ok fs ∧ ρ[0]? = some (.o (oI C a fs)) ∧ Ex (WofE E) t (stI C a (A x) (N.length - (m + 1))) (.nx ρ)) ∨
      ∃ D n ρ, F x = .err D n ∧ Ex (WofE E) t (stI C a (A x) (N.length - (m + 1))) (.xc ρ D n)) : t { nx := fun _ H' => Q .non H', rt := Q } (L2.start N vs) H := by
  obtain ⟨x, G, L, a, dx, ws, hp, rfl, la, al, r⟩ := h
  have hl : ws.length = m := by rw [allB_len al, hm]
  have sl : Slots G L (L2.start N (V.ref a :: ws)) (stI C a (A x) (N.length - (m + 1))) [(a, HO.ins C dx [])] := by
    unfold L2.start
    rw [List.length_cons, hl]
    exact .o (O := oI C a []) (cs := [(a, HO.ins C dx [])]) ⟨dx, [], rfl, rfl, .nil⟩ (slots_start _ al)
  have st : Stt G (stI C a (A x) (N.length - (m + 1))) (L2.start N (V.ref a :: ws)) L H := ⟨_, sl, la⟩
  rcases hx x a hp with ⟨fs, ρ, hF, h0, ex⟩ | ⟨D, n, ρ, hF, ex⟩
  · rw [hF] at r
    refine ex.run _ st fun G' σ' H' e s => ?_
    obtain ⟨L', sl', la'⟩ := id s
    obtain ⟨a', cs, M, e1, ⟨dx', fv, ha, hcs, hfl⟩, pm, _⟩ := sl'.get_o h0
    subst ha hcs
    have l2 : Lay G' (M ++ ([(_, HO.ins C dx' fv)] ++ L)) H' := la'.perm (by
      refine (pm.append_right L).trans ?_
      rw [List.append_assoc]
      exact perm_swap _ _ _)
    obtain ⟨G2, e2, l3, _⟩ := l2.freezeAll
    exact r G2 H' dx' fv (e.trans e2) l3 (hfl.up e2)
  · rw [hF] at r
    refine ex.run _ st fun G' σ' H' d e s hd => ?_
    obtain ⟨G2, e2, l2⟩ := s.fin
    exact r G2 H' d (e.trans e2) l2 hd
/-- C(..) -/
theorem ev_make {fs : List (Str × Rp)} (x : α) (ha : EvA tr ρ (A x)) (hp : pre x) (hF : F x = .ok fs) : Ev (tMake C (SpI C pre A F) [] E tr) ρ (pu (insR C fs)) := Ev.pure fun {G σ L0 H} Q s q => ha.at s fun G1 H1 vs L e1 sl la r => fun y dx hy hd hne => by
  have g := same_upd (o := .own y) (la.freshG hd)
  have l1 : Lay (upd G1 dx (.own y)) (L ++ L0) (upd H1 dx (.own y)) := la.grow hd
  have hy1 : upd H1 dx (.own y) y = none := by rw [upd_ne (fun z => hne z.symm)]; exact hy
  have ab : ∀ {vs : List V} {Bs : List Bw}, AllB G1 (L ++ L0) vs Bs → AllB (upd G1 dx (.own y)) (L ++ L0) vs Bs := fun {vs Bs} h => by
    induction h with
    | nil => exact .nil
    | cons h _ ih => exact .cons (Bw.up _ g (fun _ z => z) h) ih
  refine ⟨x, upd G1 dx (.own y), L ++ L0, y, dx, vs, hp, by rw [List.append_nil], l1.cell hy1, ab r, ?_⟩
  rw [hF]
  refine fun G' H' dx' fv e2 l2 hfl => ⟨rfl, ?_⟩
  have hG : G' y = none := (l2.on _ (List.mem_cons_self ..)).2
  have e3 := same_upd (o := HO.ins C dx' fv) hG
  exact q _ H' (.ref y) ((e1.trans (g.trans e2)).trans e3) ⟨L, sl.up ((g.trans e2).trans e3), l2.freeze⟩ ⟨y, dx', fv, rfl, upd_same, hfl.up e3⟩
theorem ex_make (x : α) (ha : EvA tr ρ (A x)) (hp : pre x) (hF : F x = .err D n) : EvX (WofE E) (tMake C (SpI C pre A F) [] E tr) ρ D n := ⟨fun {G σ L0 H} Q s q => ha.at s fun G1 H1 vs L e1 sl la r => fun y dx hy hd hne => by
  have g := same_upd (o := .own y) (la.freshG hd)
  have l1 : Lay (upd G1 dx (.own y)) (L ++ L0) (upd H1 dx (.own y)) := la.grow hd
  have hy1 : upd H1 dx (.own y) y = none := by rw [upd_ne (fun z => hne z.symm)]; exact hy
  have ab : ∀ {vs : List V} {Bs : List Bw}, AllB G1 (L ++ L0) vs Bs → AllB (upd G1 dx (.own y)) (L ++ L0) vs Bs := fun {vs Bs} h => by
    induction h with
    | nil => exact .nil
    | cons h _ ih => exact .cons (Bw.up _ g (fun _ z => z) h) ih
  refine ⟨x, upd G1 dx (.own y), L ++ L0, y, dx, vs, hp, by rw [List.append_nil], l1.cell hy1, ab r, ?_⟩
  rw [hF]
  exact fun G' H' d e2 l2 hd' => q G' H' d (e1.trans (g.trans e2)) ⟨L, sl.up (g.trans e2), l2⟩ hd'⟩
/-- o.m(..) -/
theorem ev_meth {A : α → List Bw} {F : α → Res} {fs : List (Str × Rp)} {m : Str} {B0 : α → Bw} (x : α) (h0 : Ev te ρ (pu (insR C fs))) (hm : fs.lookup m = none) (ha : EvA tr ρ (A x)) (hB : ∀ G L v, (insR C fs).p G v → (B0 x).p G L v) (hp : pre x) (hR : F x = .ok R) :
    Ev (tMeth C m (SpA pre (fun x => B0 x :: A x) F) [] E te tr) ρ (pu R) := Ev.pure fun {G σ L0 H} Q s q => h0.atp s fun G0 H0 v e0 s0 r0 => by
  obtain ⟨a, dx, fv, rfl, hH, hfl⟩ := id r0
  refine ⟨a, dx, fv, rfl, s0.same _ _ hH, hfl.no hm, ?_⟩
  refine ha.at s0 fun G1 H1 vs L e1 sl la r => ?_
  refine ⟨x, G1, L ++ L0, hp, la, by rw [List.append_nil]; exact .cons (hB _ _ _ ((insR C fs).up e1 r0)) r, ?_⟩
  rw [hR]
  exact fun G2 H2 v e2 l2 rv => q G2 H2 v ((e0.trans e1).trans e2) ⟨L, sl.up e2, l2⟩ rv
theorem en_meth {A : α → List Bw} {F : α → Res} {fs : List (Str × Rp)} {m : Str} {B0 : α → Bw} {ds : List PyData} (x : α) (h0 : Ev te ρ (pu (insR C fs))) (hm : fs.lookup m = none) (ha : EvA tr ρ (A x)) (hB : ∀ G L v, (insR C fs).p G v → (B0 x).p G L v) (hp : pre x) (hR : F x = .own (oL ds)) :
    EvN (tMeth C m (SpA pre (fun x => B0 x :: A x) F) [] E te tr) ρ ds := ⟨fun {G σ L0 H} Q s q => h0.atp s fun G0 H0 v e0 s0 r0 => by
  obtain ⟨a, dx, fv, rfl, hH, hfl⟩ := id r0
  refine ⟨a, dx, fv, rfl, s0.same _ _ hH, hfl.no hm, ?_⟩
  refine ha.at s0 fun G1 H1 vs L e1 sl la r => ?_
  refine ⟨x, G1, L ++ L0, hp, la, by rw [List.append_nil]; exact .cons (hB _ _ _ ((insR C fs).up e1 r0)) r, ?_⟩
  rw [hR]
  intro G2 H2 a2 cs e2 l2 ro
  obtain ⟨ws, hcs, d⟩ := ro
  subst hcs
  obtain ⟨H3, hn3, rfl, l3⟩ := Lay.uncell l2
  exact q G2 H3 _ ws ((e0.trans e1).trans e2) ⟨L, sl.up e2, l3⟩ hn3 d⟩
theorem ex_meth {A : α → List Bw} {F : α → Res} {fs : List (Str × Rp)} {m : Str} {B0 : α → Bw} (x : α) (h0 : Ev te ρ (pu (insR C fs))) (hm : fs.lookup m = none) (ha : EvA tr ρ (A x)) (hB : ∀ G L v, (insR C fs).p G v → (B0 x).p G L v) (hp : pre x) (hR : F x = .err D n) :
    EvX (WofE E) (tMeth C m (SpA pre (fun x => B0 x :: A x) F) [] E te tr) ρ D n := ⟨fun {G σ L0 H} Q s q => h0.atp s fun G0 H0 v e0 s0 r0 => by
  obtain ⟨a, dx, fv, rfl, hH, hfl⟩ := id r0
  refine ⟨a, dx, fv, rfl, s0.same _ _ hH, hfl.no hm, ?_⟩
  refine ha.at s0 fun G1 H1 vs L e1 sl la r => ?_
  refine ⟨x, G1, L ++ L0, hp, la, by rw [List.append_nil]; exact .cons (hB _ _ _ ((insR C fs).up e1 r0)) r, ?_⟩
  rw [hR]
  exact fun G2 H2 d e2 l2 hd => q G2 H2 d ((e0.trans e1).trans e2) ⟨L, sl.up e2, l2⟩ hd⟩
end
end Z

set_option Elab.async false
set_option linter.all false
set_option maxRecDepth 100000
set_option maxHeartbeats 2000000
/-! Zg: calls that may raise within a try, repr, the law's own call. -/
namespace Z
open PySem PySem.Spec PyProof.Rows L2
theorem pass_no {X : Cx} : Passes (L2.CX X.prog X.w) X (fun _ _ _ => False) := fun pins σ H s e s' inv c => by
  obtain ⟨a, B, H', cls, d, _, _, _, _, _, _, _, z⟩ := c
  exact z.elim
section
variable {X : Cx} {CX : CXT} {k : Nat} {f C : Addr} {fd : FuncData} {ps : List Str} {sp : Sp} {E : L2.St → XK} {x m : Str} {p pos apos : Pos} {e o : Expr} {es : List Expr} {ta : TE} {t : TA}
/-- C(..) in a try: what is raised is wished for at the slots of the call -/
def tMakeS (C : Addr) (sp : Sp) (E : L2.St → XK) (t : TA) : TE := fun σ H Q => t σ H fun vs H1 => ∀ y dy, H1 y = none → H1 dy = none → dy ≠ y → sp (.ref y :: vs) (upd (upd H1 dy (.own y)) y (.ins C dy [])) (fun v H2 => v = .non ∧ Q (.ref y) H2) (E σ)
theorem pe_makeS (M : Mk X.K C f) (F : FnOk X.prog X.w X.K X.mg X.base CX k f fd ps sp) (hr : Room (k + 1) X.A) (hg : Gl X x) (hm : X.mg x = some (.ref C)) (hb : Binds X.K fd ps []) (hx : ∀ σ, PassesAt CX X σ (E σ))
    (ha : PA X (e :: es) t) (hdb : (x == ("__debug__" : Str)) = false := by decide) (he : starEach (e :: es) X.env = (false, eval e X.env) :: starEach es X.env := by rfl) (hpl : (backTo pos (starEach es X.env)).any (·.1) = false := by rfl) :
    PE X (.Call (.Name x p) (e :: es) [] pos) (tMakeS C sp E t) := by
  refine ⟨fun pins s σ H Q inv h => wpAny_Call_Name_kw (ld_glob inv hg hm ?_ hdb)⟩
  refine PySem.W.callWith_K (h₀ := X.base) inv.ok.mod.kin M.kp (thn (ha.run pos pins s σ H _ inv h) fun us s1 got => ?_) he hpl
  obtain ⟨vs, H1, J, r, q⟩ := got
  refine ⟨J.kIn, ?_⟩
  let n := s1.heap.objs.size
  have hq := q (n + 1) n (J.hok.fresh (Nat.le_succ _)) (J.hok.fresh (Nat.le_refl _)) (Nat.ne_of_lt (Nat.lt_succ_self _))
  have J2 := Inv.made (C := C) J
  have hlen : (Value.ref (n + 1) :: us).length = ps.length := by
    have e1 : (V.ref (n + 1) :: vs).length = ps.length := F.len _ _ _ _ hq
    rw [List.length_cons, ← r.length]
    rw [List.length_cons] at e1
    exact e1
  have bind := hb _ (Value.ref (n + 1) :: us) J2.kIn (by rw [List.append_nil]; exact hlen)
  rw [List.append_nil] at bind
  have rel : Vals (V.ref (n + 1) :: vs) (Value.ref (n + 1) :: us) := .cons rfl r
  have go := F.run _ X.stack _ _ ⟨Value.ref (n + 1) :: us, []⟩ _ _ _ (E σ) (hr.make C us []) (J2.env0.make C us []) bind rel hq
  refine wpAny_call (make_map (f := f) J.kIn M.makes M.init (beq_iff_eq.mp M.fn) (codeAny_mono go fun res s' hres => ?_))
  match res, hres with
  | .error ex, hres => exact hx σ pins _ _ ex s' J2 hres
  | .ok (.ret u), hres =>
    obtain ⟨v, H', J3, rv, ev, q3⟩ := J2.after hres
    subst ev
    exact ⟨rv, V.ref (n + 1), H', J3, rfl, q3⟩
  | .ok .next, hres => exact hres.elim
  | .ok .brk, hres => exact hres.elim
  | .ok .cont, hres => exact hres.elim
/-- o.m(..) in a try -/
def tMethSx (C : Addr) (m : Str) (sp : Sp) (E : L2.St → XK) (ta : TE) (t : TA) : TE := fun σ H Q => ta σ H fun x H1 => ∃ a dx fs, x = .ref a ∧ H1 a = some (.ins C dx fs) ∧ fs.lookup m = none ∧ t σ H1 fun vs H2 => sp (x :: vs) H2 Q (E σ)
theorem pe_methSx {pl : Sem Bool} (ho : PE X o ta) (c : Cls X.K C) (hm : Meth X.K C m f) (F : FnOk X.prog X.w X.K X.mg X.base CX k f fd ps sp) (hr : Room k X.A) (hb : Binds X.K fd ps []) (hx : ∀ σ, PassesAt CX X σ (E σ)) (ha : PA X (e :: es) t)
    (he : starEach (e :: es) X.env = (false, eval e X.env) :: starEach es X.env := by rfl) (hpl : (backTo pos (starEach es X.env)).any (·.1) = false := by rfl)
    (ht : eval (.Call (.Attribute o m apos) (e :: es) [] pos) X.env = (do
      let w ← eval o X.env
      standAt apos.atName
      let (g, first) ← holding [w] (getMethod w m pl)
      callWith pos g first (backTo pos (starEach (e :: es) X.env)) (backToKw pos (keywordEach [] X.env))) := by rfl) :
    PE X (.Call (.Attribute o m apos) (e :: es) [] pos) (tMethSx C m sp E ta t) := by
  refine ⟨fun pins s σ H Q inv h => PySem.W.methodCall_KW (pl := pl) (thn (ho.run pins s σ H _ inv h) fun u s1 got => ?_) ht⟩
  obtain ⟨x, H1, J, rx, a, dx, fs, rfl, hHa, hl, q⟩ := got
  cases rx
  refine getmeth_ok J hHa c hm hl ?_
  refine PySem.W.callWith_K (first := [.ref a]) (h₀ := X.base) J.ok.mod.kin hm.kp (thn (ha.run pos pins s1 σ H1 _ J q) fun us s2 got => ?_) he hpl
  obtain ⟨vs, H2, J2, r, q2⟩ := got
  exact ⟨J2.kIn, run_fnS (us := .ref a :: us) (vs := .ref a :: vs) F hr hb (hx σ) J2 (.cons rfl r) q2⟩
/-- repr of data, where no repr is under way -/
abbrev cRepr : List V → Hp → VK → Prop := fun xs H Q => ∃ a d, xs = [.ref a] ∧ Dq H (.ref a) d ∧ d.showable = true ∧ d.hasDict = false ∧ d.depth ≤ 60 ∧ d.shown.length ≤ sizeLine ∧ Q (.str d.shown) H
theorem call_repr (hgd : X.A.guards = some []) (hu : X.A.units + 70 < cLine) : CallR X (.builtin "repr") cRepr := by
  intro pins s σ H xs us Q inv r h
  obtain ⟨a, d, rfl, hd, h1, h2, h3, h4, q⟩ := h
  cases r with
  | cons r1 r2 =>
    cases r2; cases r1
    obtain ⟨as, rd⟩ := L2.Dp.reads inv d _ _ (dq_dp (K := X.K) hd) rfl
    refine repr_of_reads' rd h1 (fun z => by rw [h2] at z; cases z) hgd (by omega) (fun _ _ e => e) (fun h' u tk hk => ?_) h4
    exact ⟨.str d.shown, H, inv.kept (t' := tk) hk, ⟨u, rfl⟩, q⟩
end
/-! ### the law's own call: nothing runs around it -/
/-- a def's promise where the law is called -/
def RunAt (P : Program) (w : World) (K : PySem.W.Frag) (mg : Str → Option Value) (base : Heap) (CX : CXT) (k : Nat) (f : Addr) (fd : FuncData) (ps : List Str) (sp : Sp) : Prop :=
  ∀ (s : Shared) (H : Hp) (args : Args) (us : List Value) (vs : List V) (Q : VK) (E : XK), Room k callerA → Env0 P w K mg base callerA [] s H → BindsTo s fd args (ps.zip us) → Vals vs us → sp vs H Q E →
    codeAny (model P w) callerA (.call (.ref f) args) (CR CX [] P w H s Q E) s
/-- the script, where it is no object of the text: known to its object -/
def scriptH (K : PySem.W.Frag) (a : Addr) (o : Obj) (xs : List V) : Hp := fun b => if b = a ∧ K.lookup a = none then some (.frz o (.lst xs)) else none
theorem run_law {P : Program} {w : World} {K : PySem.W.Frag} {mg mb : Str → Option Value} {CX : CXT} {k : Nat} {f a : Addr} {fd : FuncData} {x : Str} {sp : Sp} {s : Shared} {us : List Value} {ns : List Int}
    (kin : K.In s.heap) (glob : s.heap.Ns mainGlobals mg) (blt : s.heap.Ns builtinsNs mb) (bltIs : ∀ x : Str, x ≠ "__name__" → mb x = bootBuiltins x) (lim : s.heap.NoLimit) (gens : s.gens = #[])
    (there : s.heap.get? a = some { cls := .type "list", data := .seq us.toArray }) (isInts : IntsAre us ns) (small : ns.length ≤ sizeLine) (hr : Room k callerA)
    (F : ∀ base : Heap, K.In base → base.Ns mainGlobals mg → RunAt P w K mg base CX k f fd [x] sp) (binds : ∀ (s : Shared) (u : Value), BindsTo s fd ⟨[u], []⟩ [(x, u)])
    (hsp : ∀ H : Hp, SqL K H a (ns.map V.int) → sp [.ref a] H (fun v _ => v = .bl true) fun _ _ _ => False) (hCX : ∀ H e s', CX [] H s (fun _ _ _ => False) e s' → False) :
    codeAny (model P w) callerA (.call (.ref f) ⟨[.ref a], []⟩) (fun r s' => r = .ok (.ret (.bool true)) ∧ OldK s.heap s'.heap ∧ s'.os = s.os ∧ AllBare s'.gens) s := by
  have rel : Vals (ns.map V.int) us := vals_ints isInts
  have lenU : us.length = ns.length := isInts.length
  let o : Obj := { cls := .type "list", data := .seq us.toArray }
  let H := scriptH K a o (ns.map V.int)
  have Hat : ∀ b u, H b = some u → b = a ∧ K.lookup a = none ∧ u = .frz o (.lst (ns.map V.int)) := fun b u e => by
    have e : (if b = a ∧ K.lookup a = none then some (HO.frz o (.lst (ns.map V.int))) else none) = some u := e
    by_cases h : b = a ∧ K.lookup a = none
    · rw [if_pos h] at e
      exact ⟨h.1, h.2, (Option.some.inj e).symm⟩
    · rw [if_neg h] at e
      cases e
  have sq : SqL K H a (ns.map V.int) := by
    cases e : K.lookup a with
    | none => exact .inl (.inr ⟨o, if_pos ⟨rfl, e⟩⟩)
    | some q =>
      have z := kin a q e
      rw [there] at z
      cases z
      exact .inr ⟨_, us.toArray, _, e, rfl, rfl, rfl, by rw [List.size_toArray, lenU]; exact small, by simpa using rel⟩
  have hok : HOk P w H s.heap := fun b u e => by
    obtain ⟨rfl, _, rfl⟩ := Hat b u e
    exact ⟨there, by rw [List.length_map]; exact small, us, _, rel, there⟩
  have away : ∀ {b : Addr} {q : Obj}, K.lookup b = some q → H b = none := fun {b q} e => by
    cases z : H b with
    | none => rfl
    | some u =>
      obtain ⟨rfl, h, _⟩ := Hat b u z
      rw [h] at e
      cases e
  have dict : ∀ {b : Addr} {m : Str → Option Value}, s.heap.Ns b m → (hidT s.heap H).Ns b m := fun {b m} ⟨q, es, ep, e, d, r⟩ => by
    refine ⟨q, es, ep, hidT_get e ?_, d, r⟩
    cases z : H b with
    | none => rfl
    | some u =>
      obtain ⟨rfl, _, _⟩ := Hat b u z
      rw [there] at e
      cases e
      have d : Data.seq us.toArray _ = Data.dict es ep := d
      cases d
  have kinB : K.In (hidT s.heap H) := fun b q e => hidT_get (kin b q e) (away e)
  obtain ⟨mc, c1, c2⟩ := lim
  have env : Env0 P w K mg (hidT s.heap H) callerA [] s H :=
    { frames := rfl, mod := ⟨kinB, dict glob, ⟨mb, dict blt, bltIs⟩, ⟨mc, dict c1, c2⟩⟩, bs := fun b q e => of_hidT e, bsz := Nat.le_of_eq (hidT_size _ _), funs := trivial, frf := fun b hb => (by cases (show b ∈ ([] : List Addr) from hb)), hok := hok, bare := .of_eq gens }
  refine codeAny_mono (F _ kinB (dict glob) s H ⟨[.ref a], []⟩ [.ref a] [.ref a] _ _ hr env (binds s (.ref a)) (.cons rfl .nil) (hsp H sq)) fun r s' h => ?_
  match r, h with
  | .error e, h => exact (hCX H e s' h).elim
  | .ok .next, h => exact h.elim
  | .ok .brk, h => exact h.elim
  | .ok .cont, h => exact h.elim
  | .ok (.ret u), h =>
    obtain ⟨v, H', os, bare, un, hok', rv, q⟩ := h
    have q : v = .bl true := q
    subst q
    cases rv
    refine ⟨rfl, OldK.of_keep fun b q e => ?_, os, bare⟩
    cases z : H b with
    | none => exact un.keep b q e z (fun m => by cases (show b ∈ ([] : List Addr) from m)) (by simp)
    | some u =>
      obtain ⟨rfl, _, rfl⟩ := Hat b u z
      obtain ⟨e2, _⟩ := hok' _ _ (un.frzs _ _ _ z)
      rw [e] at there
      cases there
      exact e2
/-- the goal behind the head, from the law's promise where it is called -/
theorem walk_at {l : PySem.W.OpenLaw} {n k : Nat} {q : Program} {loose : List Str} {XP : (Str → Option Value) → Heap → Prop} {YP : World → Heap → Prop} {d : DefRec} {K : Params → PySem.W.Frag} {CX : World → CXT} {sp : World → Sp} {x : Str}
    (hn : l.most = some n) (hn2 : n ≤ sizeLine) (hdf : d.params.defaults = []) (hr : Room k callerA) (hY : ∀ (w : World) (h : Heap), YP w h → (K w.params).In h)
    (F : ∀ (w : World) (mg : Str → Option Value) (fa : Addr) (h : Heap), (K w.params).In h → h.Ns mainGlobals mg → mg d.name = some (.ref fa) →
      ∃ fd : FuncData, (∀ (s : Shared) (u : Value), BindsTo s fd ⟨[u], []⟩ [(x, u)]) ∧ ∀ base : Heap, (K w.params).In base → base.Ns mainGlobals mg → RunAt l.prog w (K w.params) mg base (CX w) k fa fd [x] (sp w))
    (hsp : ∀ (w : World) (H : Hp) (a : Addr) (ns : List Int), ns.length ≤ n → SqL (K w.params) H a (ns.map V.int) → sp w [.ref a] H (fun v _ => v = .bl true) fun _ _ _ => False)
    (hCX : ∀ (w : World) (H : Hp) (s : Shared) (e : Value) (s' : Shared), CX w [] H s (fun _ _ _ => False) e s' → False) : PySem.W.WalkO q loose XP YP l.row.toRowW d [] (fun f vs => PySem.call f vs) := by
  refine Att.attach_call hn hdf fun w s₀ s₁ mg mb fa o pm cd doc a vs ns G Y ho hd hcd hmg hobj hints hlen hg => ?_
  have kin := hY w _ Y
  obtain ⟨fd, hb, hF⟩ := F w mg fa _ kin G.T.g hmg
  exact run_law kin G.T.g G.T.b G.T.builtins G.T.nolimit hg hobj hints (Nat.le_trans hlen hn2) hr hF hb (fun H hS => hsp w H a ns hlen hS) fun H e s' => hCX w H s₁ e s'
/-- the law's def at its call: its body, with nothing under way -/
theorem fun_at {P : Program} {w : World} {K : PySem.W.Frag} {mg : Str → Option Value} {base : Heap} {x qual : Str} {st : Stmt} {f : Addr} {fd : FuncData} {N ps : List Str} {k : Nat} {sp : Sp} (F : Fun K x qual st f fd) (S : FnScope N ps (defScope st))
    (len : ∀ vs H Q E, sp vs H Q E → vs.length = ps.length)
    (body : ∀ (cdv : Value) (s : Shared) (H : Hp) (vs : List V) (Q : VK) (E : XK), Room k (callerA.deeper (envOfC qual (defScope st) s.heap.objs.size f cdv)) → (callerA.deeper (envOfC qual (defScope st) s.heap.objs.size f cdv)).guards = some [] → sp vs H Q E →
      ∃ t, PSs (cxOf (L2.CX P w) P w K mg base N qual (defScope st) f cdv callerA [] s H E) (defBody st) t ∧ t { nx := fun _ H' => Q .non H', rt := Q } (L2.start N vs) H) : RunAt P w K mg base (L2.CX P w) (k + 1) f fd ps sp := by
  obtain ⟨oc, od, kV, doc, pm, an, cdv, ct, osl, rfl, lk, hcd⟩ := F.ex
  intro s H args us vs Q E hr env bind rel hsp
  have lens := len _ _ _ _ hsp
  have kin : K.In s.heap := env.mod.kin.keeps fun b o e => (env.bs b o e).1
  have lim : s.heap.NoLimit := env.mod.nolimit.keeps fun b o e => (env.bs b o e).1
  have kinds : ∀ y ∈ ps.zip us, (defScope st).names.lookup y.1 = some .local ∨ ((defScope st).names.lookup y.1 = some .cell ∧ ((cellsFrom (s.heap.objs.size + 1) (defScope st).names []).lookup y.1).isSome = true) := by
    rintro ⟨n, v⟩ hy
    exact (S.par n (List.of_mem_zip hy).1).imp id fun z => ⟨z, PySem.W.cellsFrom_some _ _ _ (.inl z)⟩
  obtain ⟨t, ht, hq⟩ := body cdv s H vs Q E (hr.deeper _) rfl hsp
  refine codeAny_call_function hr.depth (kin _ _ lk) rfl S.co S.gen rfl (PySem.W.codeRec_of kin hcd) (bind _ _ _ _ ?_)
  refine wpAny_newFunctionEnv_cells S.kind kinds fun e he s1 new => ?_
  subst he
  refine ⟨lim.keeps new.toInCall.keep, codeAny_func ?_⟩
  have inv : Inv (cxOf (L2.CX P w) P w K mg base N qual (defScope st) f cdv callerA [] s H E) [] (L2.start N vs) H s1 := inv_start S hr.hd env lens rel new
  refine wpAny_mono (ht.run [] s1 _ H _ inv hq) (fun fl s' got => ?_) fun e s' got => got
  match fl, got with
  | .ret u, ⟨v, σ', H', J, rv, q⟩ => exact ⟨v, H', J.os, J.bare, J.base, J.hok, rv, q⟩
  | .next, ⟨σ', H', J, q⟩ => exact ⟨.non, H', J.os, J.bare, J.base, J.hok, rfl, q⟩
  | .brk, ⟨σ', H', J, q⟩ => exact q.elim
  | .cont, ⟨σ', H', J, q⟩ => exact q.elim
end Z

set_option Elab.async false
set_option linter.all false
set_option maxRecDepth 100000
set_option maxHeartbeats 2000000
/-! Zh: data arguments, told-of-some values, handing over. -/
namespace Z
open PySem PySem.Spec PyProof.Rows L2
section
variable {K : PySem.W.Frag} {W : WX} {ρ ρ' ρ1 : List Sl} {te ta tb : TE} {t u : TS} {tr : TA} {R : Rp} {B Ba Bb : Bw} {o : Out} {i j : Nat} {E : XK} {C : Addr} {n : Int}
/-- arguments that are data -/
structure EvD (ta : TA) (ρ : List Sl) (ds : List PyData) : Prop where
  all : EvA ta ρ (ds.map fun d => pu (dat d))
theorem ed_nil : EvD tNil ρ [] := ⟨ea_nil⟩
theorem ed_cons {d : PyData} {ds : List PyData} (h : Ev te ρ (pu (dat d))) (t : EvD tr ρ ds) : EvD (tCons te tr) ρ (d :: ds) := ⟨ea_cons h t.all⟩
theorem ev_tupD {ds : List PyData} (h : EvD tr ρ ds) (hl : ds.length ≤ 1000) : Ev (tTup tr) ρ (pu (dat (.tuple ds))) := ev_tup h.all hl
theorem en_lstD {ds : List PyData} (h : EvD tr ρ ds) (hl : ds.length ≤ 1000) : EvN (tLst tr) ρ ds := en_lst h.all hl
/-- a list that stays is a list -/
theorem Op2.l {r : R2} {ds : List PyData} (h : Op2 r (bL ds) Bb R) : Op2 r (pu (dat (.list ds))) Bb R := fun G H L x y Q l hx hy q => h G H L x y Q l (bl_of_dat _ _ _ hx) hy q
theorem Op2.r {r : R2} {ds : List PyData} (h : Op2 r Ba (bL ds) R) : Op2 r Ba (pu (dat (.list ds))) R := fun G H L x y Q l hx hy q => h G H L x y Q l hx (bl_of_dat _ _ _ hy) q
theorem Op2N.l {r : R2} {ds es : List PyData} (h : Op2N r (bL ds) Bb es) : Op2N r (pu (dat (.list ds))) Bb es := fun G H L x y Q l hx hy q => h G H L x y Q l (bl_of_dat _ _ _ hx) hy q
theorem Op2N.r {r : R2} {ds es : List PyData} (h : Op2N r Ba (bL ds) es) : Op2N r Ba (pu (dat (.list ds))) es := fun G H L x y Q l hx hy q => h G H L x y Q l hx (bl_of_dat _ _ _ hy) q
theorem Op2.is {r : R2} {R' : Rp} (h : Op2 r Ba Bb R) (e : R = R') : Op2 r Ba Bb R' := by rw [← e]; exact h
/-! ### values of which some is told -/
def exR {α : Type} (P : α → Prop) (F : α → Rp) : Rp := ⟨fun G v => ∃ x, P x ∧ (F x).p G v, fun e h => by
  obtain ⟨x, p, q⟩ := h
  exact ⟨x, p, (F x).up e q⟩⟩
theorem Slots.open_ {α : Type} {P : α → Prop} {F : α → Rp} {G : Hp} {L0 : List Cell} : ∀ {σ ρ L} {i : Nat}, Slots G L0 σ ρ L → ρ[i]? = some (.p (exR P F)) → ∃ x, P x ∧ Slots G L0 σ (ρ.set i (.p (F x))) L
  | _, _, _, _, .nil, h => by simp at h
  | _, _, _, 0, .x _, h => by simp at h
  | _, _, _, 0, .b _ _, h => by simp at h
  | _, _, _, 0, .o _ _, h => by simp at h
  | _, _, _, 0, .p q s, h => by
    simp at h; subst h
    obtain ⟨x, p, r⟩ := q
    exact ⟨x, p, .p r s⟩
  | _, _, _, i + 1, .x s, h => by
    obtain ⟨x, p, s'⟩ := s.open_ (i := i) (by simpa using h)
    exact ⟨x, p, .x s'⟩
  | _, _, _, i + 1, .b q s, h => by
    obtain ⟨x, p, s'⟩ := s.open_ (i := i) (by simpa using h)
    exact ⟨x, p, .b q s'⟩
  | _, _, _, i + 1, .p q s, h => by
    obtain ⟨x, p, s'⟩ := s.open_ (i := i) (by simpa using h)
    exact ⟨x, p, .p q s'⟩
  | _, _, _, i + 1, .o q s, h => by
    obtain ⟨x, p, s'⟩ := s.open_ (i := i) (by simpa using h)
    exact ⟨x, p, .o q s'⟩
theorem Ex.open_ {α : Type} {P : α → Prop} {F : α → Rp} (i : Nat) (hi : ρ[i]? = some (.p (exR P F))) (h : ∀ x, P x → Ex W t (ρ.set i (.p (F x))) o) : Ex W t ρ o := ⟨fun D s q => by
  obtain ⟨L, sl, la⟩ := s
  obtain ⟨x, p, sl'⟩ := sl.open_ hi
  exact (h x p).run D ⟨L, sl', la⟩ q⟩
theorem Ev.ex {α : Type} {P : α → Prop} {F : α → Rp} (x : α) (p : P x) (h : Ev te ρ (pu (F x))) : Ev te ρ (pu (exR P F)) := h.imp fun _ _ _ q => ⟨x, p, q⟩
/-! ### handing over -/
theorem Ex.retO {ds : List PyData} (h : EvN te ρ ds) : Ex W (tRet te) ρ (.ro (oL ds)) := ⟨fun D s q => h.run _ s fun G' H' p vs e s' hp d => by
  obtain ⟨G2, e2, l2⟩ := s'.fin
  exact q G2 _ p [(p, .lst vs)] (e.trans e2) (l2.cell hp) ⟨vs, rfl, dpAll_up e2 d⟩⟩
/-- an owned list, handed over -/
theorem Ex.retOv {ds : List PyData} (hi : ρ[i]? = some (.o (oL ds))) : Ex W (tRet (tVar i)) ρ (.ro (oL ds)) := ⟨fun D s q => by
  obtain ⟨L, sl, la⟩ := s
  obtain ⟨a, cs, M, e, hO, pm, _⟩ := sl.get_o hi
  have l2 : Lay _ (M ++ (cs ++ _)) _ := la.perm (by
    refine (pm.append_right _).trans ?_
    rw [List.append_assoc]
    exact perm_swap cs M _)
  obtain ⟨G2, e2, l3, _⟩ := l2.freezeAll
  exact ⟨_, e, q G2 _ a cs e2 l3 ((oL ds).up e2 hO)⟩⟩
/-- a pair (n, owned list) -/
def oPair (n : Int) (ds : List PyData) : Op := ⟨fun G a cs => ∃ l vs, G a = some (.tup [.int n, .ref l]) ∧ cs = [(l, HO.lst vs)] ∧ DqAll G vs ds, fun e h => by
  obtain ⟨l, vs, h1, h2, h3⟩ := h
  exact ⟨l, vs, e _ _ h1, h2, dpAll_up e h3⟩⟩
theorem Ex.retPair {ds : List PyData} (hi : ρ[i]? = some (.p (dI n))) (hj : ρ[j]? = some (.o (oL ds))) : Ex W (tRet (tTup (tCons (tVar i) (tCons (tVar j) tNil)))) ρ (.ro (oPair n ds)) := ⟨fun {G σ L0 H} D s q => by
  obtain ⟨v, e, r⟩ := s.get_p hi
  cases r
  obtain ⟨L, sl, la⟩ := s
  obtain ⟨a, cs, M, e', ⟨vs, hcs, hd⟩, pm, _⟩ := sl.get_o hj
  subst hcs
  refine ⟨_, e, _, e', (by show 2 ≤ sizeLine; decide), fun p hp => ?_⟩
  have g := same_upd (o := HO.tup [.int n, .ref a]) (la.freshG hp)
  have l2 : Lay (upd G p (HO.tup [.int n, .ref a])) (M ++ ([(a, HO.lst vs)] ++ L0)) (upd H p (HO.tup [.int n, .ref a])) := (la.grow (o := HO.tup [.int n, .ref a]) hp).perm (by
    refine (pm.append_right _).trans ?_
    rw [List.append_assoc]
    exact perm_swap _ M _)
  obtain ⟨G2, e2, l3, _⟩ := l2.freezeAll
  exact q G2 _ p _ (g.trans e2) l3 ⟨a, vs, e2 _ _ upd_same, rfl, dpAll_up (g.trans e2) hd⟩⟩
/-- a, b = f(..), f handing over a pair of a number and a list -/
theorem Ex.asgPair {α : Type} {pre : α → Prop} {A : α → List Bw} {F : α → Res} {ds : List PyData} (x : α) (ha : EvA tr ρ (A x)) (hp : pre x) (hR : F x = .own (oPair n ds)) (hj : j < ρ.length) :
    Ex W (tAsg (tCall (SpA pre A F) [] E tr) (gTup K 2 (gCons (gName i) (gCons (gName j) gNil)))) ρ (.nx ((ρ.set i (.p (dI n))).set j (.o (oL ds)))) := ⟨fun {G σ L0 H} D s q => ha.at s fun G1 H1 vs L e1 sl la r => by
  refine ⟨x, G1, L ++ L0, hp, la, by rw [List.append_nil]; exact r, ?_⟩
  rw [hR]
  intro G2 H2 a cs e2 l2 ro
  obtain ⟨l, ws, ht, hcs, d⟩ := ro
  subst hcs
  obtain ⟨H3, hn3, rfl, l3⟩ := Lay.uncell l2
  refine ⟨a, [.int n, .ref l], rfl, .inl (.inl (l2.same _ _ ht)), rfl, _, _, rfl, _, _, rfl, rfl, ?_⟩
  have s3 : Stt G2 ρ σ L0 H3 := ⟨L, sl.up e2, l3⟩
  obtain ⟨G4, e4, s4⟩ := s3.set_p (R := dI n) (v := .int n) (Dq.int n) i
  obtain ⟨G5, e5, s5⟩ := s4.set_o (O := oL ds) (a := l) (cs := [(l, .lst ws)]) (H' := upd H3 l (.lst ws)) ⟨ws, rfl, dpAll_up e4 d⟩ j (by simpa using hj) (fun M lm => lm.cell hn3)
  exact q G5 _ _ ((e1.trans e2).trans (e4.trans e5)) s5⟩
/-- f(..).append(e): a new list, changed and let go -/
theorem Ex.appNew {ds : List PyData} {d : PyData} {T : String} (h : EvN te ρ ds) (he : Ev ta ρ (pu (dat d))) (hz : ds.length < 1000000) (hT : T = "list") : Ex W (tDrop (tBM K T rAppend te (tCons ta tNil))) ρ (.nx ρ) := ⟨fun {G σ L0 H} D s q => h.run _ s fun G1 H1 p vs e1 s1 hp hd => by
  refine ⟨.inl ⟨hT, vs, .inl (.inl upd_same)⟩, ?_⟩
  obtain ⟨L, sl, la⟩ := s1
  -- the list as a frame's cell while e is evaluated
  have st : Stt G1 ρ σ ((p, HO.lst vs) :: L0) (upd H1 p (.lst vs)) := ⟨L, sl.mono fun c hc => List.mem_cons_of_mem _ hc, (la.cell hp).perm List.perm_middle.symm⟩
  refine he.atp st fun G2 H2 v e2 s2 r => ?_
  obtain ⟨L2, sl2, la2⟩ := s2
  have la3 := la2.perm List.perm_middle
  have hc := (la3.on _ (List.mem_cons_self ..)).1
  refine ⟨p, vs, v, rfl, rfl, hc, by rw [dpAll_len hd]; exact Nat.lt_trans hz (by decide), ?_⟩
  have la4 := (la3.store (u := HO.lst (vs ++ [v])))
  have hG : G2 p = none := (la3.on _ (List.mem_cons_self ..)).2
  have g := same_upd (o := HO.lst (vs ++ [v])) hG
  exact q _ _ _ ((e1.trans e2).trans g) ⟨L2, (((sl.mix e2 sl2)).up g), la4.freeze⟩⟩
theorem enum_map {α : Type} {en : α → PyData} : ∀ (xs : List α) (k : Nat), ((xs.map en).zipIdx k).map (fun p => PyData.tuple [.int ((p.2 : Nat) : Int), p.1]) = (xs.zipIdx k).map fun p => .tuple [.int ((p.2 : Nat) : Int), en p.1]
  | [], _ => rfl
  | x :: xs, k => by
    rw [List.map_cons, List.zipIdx_cons, List.map_cons, List.zipIdx_cons, List.map_cons, enum_map xs (k + 1)]
theorem ei_enumT {α : Type} {en : α → PyData} {xs : List α} (h : EvS K te ρ (xs.map en)) : EvI K (iEnum K (tCons te tNil)) ρ (xs.zipIdx.map fun p => .tuple [.int ((p.2 : Nat) : Int), en p.1]) := by
  rw [← enum_map xs 0]
  exact ei_enum h
theorem ei_rangeT {n : Int} (h : EvA tr ρ [pu (dI n)]) (h1 : -(2 ^ 62) ≤ n) (h2 : n < 2 ^ 62) : EvI K (iRng1 tr) ρ ((List.range n.toNat).map fun (k : Nat) => .int (k : Int)) := by
  have e : ((List.range n.toNat).map fun (k : Nat) => PyData.int (k : Int)) = irange 0 n.toNat := by
    unfold irange
    refine List.map_congr_left fun k _ => ?_
    rw [Int.zero_add]
  rw [e]
  exact ei_range1 h h1 h2
theorem ei_listT {α : Type} {en : α → PyData} {xs : List α} (h : EvS K te ρ (xs.map en)) : EvI K (iList K te) ρ (xs.map en) := ei_list h
theorem len_map_le {α β : Type} {f : α → β} {xs : List α} {n : Nat} (h : xs.length ≤ n) : (xs.map f).length ≤ n := by rw [List.length_map]; exact h
end
theorem cl_lenP {K : PySem.W.Frag} {ds : List PyData} : Cl (cLen K) [pu (dat (.list ds))] (dI ds.length) := fun G H L vs Q l r q => by
  cases r with
  | cons h t => exact cl_len G H L _ Q l (.cons (bl_of_dat _ _ _ h) t) q
theorem cl_listP {K : PySem.W.Frag} {ds : List PyData} : ClN (cList K) [pu (dat (.list ds))] ds := fun G H L vs Q l r q => by
  cases r with
  | cons h t => exact cl_list G H L _ Q l (.cons (bl_of_dat _ _ _ h) t) q
theorem o_inT2 {K : PySem.W.Frag} {n a b : Int} : Op2 (rIn K false) (pu (dI n)) (pu (dat (.tuple [.int a, .int b]))) (dB (decide (n ∈ [a, b]))) := o_inT (ns := [a, b])
theorem SpA.go {α : Type} {pre : α → Prop} {A : α → List Bw} {F : α → Res} {vs : List V} {H : Hp} {Q : VK} {E : XK} {t : TS} (h : SpA pre A F vs H Q E) (N : List Str) (m : Nat) (hm : ∀ x, (A x).length = m)
    (hx : ∀ x, pre x → ∃ r ρ, F x = r ∧ Ex (WofE E) t (st0 (A x) (N.length - m)) (r.out ρ)) : t { nx := fun _ H' => Q .non H', rt := Q } (L2.start N vs) H :=
  h.run (N := N) hm fun x p => by
    obtain ⟨r, ρ, e, ex⟩ := hx x p
    exact ⟨ρ, by rw [e]; exact ex⟩
/-- where the body may run out -/
theorem SpA.goN {α : Type} {pre : α → Prop} {A : α → List Bw} {F : α → Res} {vs : List V} {H : Hp} {Q : VK} {E : XK} {t : TS} (h : SpA pre A F vs H Q E) (N : List Str) (m : Nat) (hm : ∀ x, (A x).length = m)
    (hx : ∀ x, pre x → (∃ ρ, F x = .ok (dat .none) ∧ Ex (WofE E) t (st0 (A x) (N.length - m)) (.nx ρ)) ∨ ∃ r ρ, F x = r ∧ Ex (WofE E) t (st0 (A x) (N.length - m)) (r.out ρ)) : t { nx := fun _ H' => Q .non H', rt := Q } (L2.start N vs) H :=
  h.runN (N := N) hm fun x p => by
    rcases hx x p with ⟨ρ, e, ex⟩ | ⟨r, ρ, e, ex⟩
    · exact ⟨ρ, .inl ⟨e, ex⟩⟩
    · exact ⟨ρ, .inr (by rw [e]; exact ex)⟩
end Z

set_option Elab.async false
set_option linter.all false
set_option maxRecDepth 100000
set_option maxHeartbeats 2000000
/-! Zk: the rules that name the written part, with its name handed over. -/
namespace Z
open PySem PySem.Spec PyProof.Rows L2
section
variable (K : PySem.W.Frag) {X : Cx}
theorem kix_list (h : X.K = K := by rfl) : IxR X (rIxL K) := by subst h; exact ix_list
theorem kix_tup (h : X.K = K := by rfl) : IxR X (rIxT K) := by subst h; exact ix_tup
theorem ksl_list (h : X.K = K := by rfl) : SlR X (rSlL K) := by subst h; exact sl_list
theorem ksl_tup (h : X.K = K := by rfl) : SlR X (rSlT K) := by subst h; exact sl_tup
theorem kop_in (h : X.K = K := by rfl) : OpR X (compareOp .In) (rIn K false) := by subst h; exact op_in_seq
theorem kop_notIn (h : X.K = K := by rfl) : OpR X (compareOp .NotIn) (rIn K true) := by subst h; exact op_notIn_seq
theorem kop_eqD (hu : X.A.units + 64 < cLine) (h : X.K = K := by rfl) : OpR X (compareOp .Eq) (rEqD K) := by subst h; exact op_eqD hu
theorem kop_neD (hu : X.A.units + 64 < cLine) (h : X.K = K := by rfl) : OpR X (compareOp .NotEq) (rNeD K) := by subst h; exact op_neD hu
theorem kcall_len (h : X.K = K := by rfl) : CallR X (.builtin "len") (cLen K) := by subst h; exact call_len_seq
theorem kcall_list (h : X.K = K := by rfl) : CallR X (.type "list") (cList K) := by subst h; exact call_list_of
theorem kcall_sum (hc : X.calm = true) (h : X.K = K := by rfl) : CallR X (.builtin "sum") (rSum K) := by subst h; exact cr_sum hc
theorem kcall_any (hc : X.calm = true) (h : X.K = K := by rfl) : CallR X (.builtin "any") (rAny K) := by subst h; exact cr_any hc
theorem kcall_all (hc : X.calm = true) (h : X.K = K := by rfl) : CallR X (.builtin "all") (rAll K) := by subst h; exact cr_all hc
variable {tg l e : Expr} {tl te : TE} {ta : TA} {es elts : List Expr} {k kk n : Nat} {t : TGs} {pos p tpos : Pos} {f : Str}
theorem kpi_list (hl : PE X l tl) (h : X.K = K := by rfl) : PI X tg l (iList K tl) := by subst h; exact pi_list hl
theorem kpi_tup (hl : PE X l tl) (h : X.K = K := by rfl) : PI X tg l (iTup K tl) := by subst h; exact pi_tup hl
theorem kpi_enum (hg : Gl X "enumerate") (hm : X.mg "enumerate" = none) (ha : PA X [e] ta) (hs : starEach [e] X.env = [(false, eval e X.env)] := by rfl) (h : X.K = K := by rfl) : PI X (.Tuple elts kk tpos) (.Call (.Name "enumerate" p) [e] [] pos) (iEnum K ta) := by
  subst h; exact pi_enum hg hm ha hs
theorem kpg_tup (hc : X.calm = true) (hp : PGs X es t) (hn : (assignEach es X.env).length = n := by rfl) (hst : (assignEach es X.env).findIdx? (·.1) = none := by rfl) (h : X.K = K := by rfl) : PG X (.Tuple es k pos) (gTup K n t) := by
  subst h; exact pg_tup hc hp hn hst
theorem kps_fld {value o : Expr} {ta tv : TE} {pos' : Pos} (ho : PE X o ta) (hv : PE X value tv) (hs : swapsWith value (some (.Attribute o f pos')) pos.line X.env = pure false) (h : X.K = K := by rfl) : PS X (.Assign [.Attribute o f pos'] value pos) (sFld K ta tv f) := by subst h; exact ps_fld ho hv hs
theorem kpe_fld (he : PE X e te) (hb : attributeBase e f X.env (eval e X.env) = eval e X.env) (h : X.K = K := by rfl) : PE X (.Attribute e f pos) (tFld K te f) := by subst h; exact pe_fld he hb
end
end Z

set_option Elab.async false
set_option linter.all false
set_option maxRecDepth 100000
set_option maxHeartbeats 2000000
/-! Zl: makes and methods in a try. -/
namespace Z
open PySem PySem.Spec PyProof.Rows L2
section
variable {K : PySem.W.Frag} {W : WX} {ρ ρ' ρ1 : List Sl} {te ta tb : TE} {t u : TS} {tr : TA} {R : Rp} {B : Bw} {o : Out} {i : Nat} {α : Type} {pre : α → Prop} {A : α → List Bw} {C D : Addr} {n : Int}
theorem ev_makeS {F : α → IRes} {E : L2.St → XK} {fs : List (Str × Rp)} (x : α) (ha : EvA tr ρ (A x)) (hp : pre x) (hF : F x = .ok fs) : Ev (tMakeS C (SpI C pre A F) E tr) ρ (pu (insR C fs)) := Ev.pure fun {G σ L0 H} Q s q => ha.at s fun G1 H1 vs L e1 sl la r => fun y dx hy hd hne => by
  have g := same_upd (o := .own y) (la.freshG hd)
  have l1 : Lay (upd G1 dx (.own y)) (L ++ L0) (upd H1 dx (.own y)) := la.grow hd
  have hy1 : upd H1 dx (.own y) y = none := by rw [upd_ne (fun z => hne z.symm)]; exact hy
  have ab : ∀ {vs : List V} {Bs : List Bw}, AllB G1 (L ++ L0) vs Bs → AllB (upd G1 dx (.own y)) (L ++ L0) vs Bs := fun {vs Bs} h => by
    induction h with
    | nil => exact .nil
    | cons h _ ih => exact .cons (Bw.up _ g (fun _ z => z) h) ih
  refine ⟨x, upd G1 dx (.own y), L ++ L0, y, dx, vs, hp, rfl, l1.cell hy1, ab r, ?_⟩
  rw [hF]
  refine fun G' H' dx' fv e2 l2 hfl => ⟨rfl, ?_⟩
  have hG : G' y = none := (l2.on _ (List.mem_cons_self ..)).2
  have e3 := same_upd (o := HO.ins C dx' fv) hG
  exact q _ H' (.ref y) ((e1.trans (g.trans e2)).trans e3) ⟨L, sl.up ((g.trans e2).trans e3), l2.freeze⟩ ⟨y, dx', fv, rfl, upd_same, hfl.up e3⟩
theorem ex_makeS {F : α → IRes} (x : α) (ha : EvA tr ρ (A x)) (hp : pre x) (hF : F x = .err D n) : EvX W (tMakeS C (SpI C pre A F) (WE W) tr) ρ D n := ⟨fun {G σ L0 H} Q s q => ha.at s fun G1 H1 vs L e1 sl la r => fun y dx hy hd hne => by
  have g := same_upd (o := .own y) (la.freshG hd)
  have l1 : Lay (upd G1 dx (.own y)) (L ++ L0) (upd H1 dx (.own y)) := la.grow hd
  have hy1 : upd H1 dx (.own y) y = none := by rw [upd_ne (fun z => hne z.symm)]; exact hy
  have ab : ∀ {vs : List V} {Bs : List Bw}, AllB G1 (L ++ L0) vs Bs → AllB (upd G1 dx (.own y)) (L ++ L0) vs Bs := fun {vs Bs} h => by
    induction h with
    | nil => exact .nil
    | cons h _ ih => exact .cons (Bw.up _ g (fun _ z => z) h) ih
  refine ⟨x, upd G1 dx (.own y), L ++ L0, y, dx, vs, hp, rfl, l1.cell hy1, ab r, ?_⟩
  rw [hF]
  exact fun G' H' d e2 l2 hd' => q G' H' d (e1.trans (g.trans e2)) ⟨L, sl.up (g.trans e2), l2⟩ hd'⟩
theorem ev_methSx {E : L2.St → XK} {F : α → Res} {fs : List (Str × Rp)} {m : Str} {B0 : α → Bw} (x : α) (h0 : Ev te ρ (pu (insR C fs))) (hm : fs.lookup m = none) (ha : EvA tr ρ (A x)) (hB : ∀ G L v, (insR C fs).p G v → (B0 x).p G L v) (hp : pre x) (hR : F x = .ok R) :
    Ev (tMethSx C m (SpA pre (fun x => B0 x :: A x) F) E te tr) ρ (pu R) := Ev.pure fun {G σ L0 H} Q s q => h0.atp s fun G0 H0 v e0 s0 r0 => by
  obtain ⟨a, dx, fv, rfl, hH, hfl⟩ := id r0
  refine ⟨a, dx, fv, rfl, s0.same _ _ hH, hfl.no hm, ?_⟩
  refine ha.at s0 fun G1 H1 vs L e1 sl la r => ?_
  refine ⟨x, G1, L ++ L0, hp, la, .cons (hB _ _ _ ((insR C fs).up e1 r0)) r, ?_⟩
  rw [hR]
  exact fun G2 H2 v e2 l2 rv => q G2 H2 v ((e0.trans e1).trans e2) ⟨L, sl.up e2, l2⟩ rv
theorem en_methSx {E : L2.St → XK} {F : α → Res} {fs : List (Str × Rp)} {m : Str} {B0 : α → Bw} {ds : List PyData} (x : α) (h0 : Ev te ρ (pu (insR C fs))) (hm : fs.lookup m = none) (ha : EvA tr ρ (A x)) (hB : ∀ G L v, (insR C fs).p G v → (B0 x).p G L v) (hp : pre x) (hR : F x = .own (oL ds)) :
    EvN (tMethSx C m (SpA pre (fun x => B0 x :: A x) F) E te tr) ρ ds := ⟨fun {G σ L0 H} Q s q => h0.atp s fun G0 H0 v e0 s0 r0 => by
  obtain ⟨a, dx, fv, rfl, hH, hfl⟩ := id r0
  refine ⟨a, dx, fv, rfl, s0.same _ _ hH, hfl.no hm, ?_⟩
  refine ha.at s0 fun G1 H1 vs L e1 sl la r => ?_
  refine ⟨x, G1, L ++ L0, hp, la, .cons (hB _ _ _ ((insR C fs).up e1 r0)) r, ?_⟩
  rw [hR]
  intro G2 H2 a2 cs e2 l2 ro
  obtain ⟨ws, hcs, d⟩ := ro
  subst hcs
  obtain ⟨H3, hn3, rfl, l3⟩ := Lay.uncell l2
  exact q G2 H3 _ ws ((e0.trans e1).trans e2) ⟨L, sl.up e2, l3⟩ hn3 d⟩
theorem ex_methSx {F : α → Res} {fs : List (Str × Rp)} {m : Str} {B0 : α → Bw} (x : α) (h0 : Ev te ρ (pu (insR C fs))) (hm : fs.lookup m = none) (ha : EvA tr ρ (A x)) (hB : ∀ G L v, (insR C fs).p G v → (B0 x).p G L v) (hp : pre x) (hR : F x = .err D n) :
    EvX W (tMethSx C m (SpA pre (fun x => B0 x :: A x) F) (WE W) te tr) ρ D n := ⟨fun {G σ L0 H} Q s q => h0.atp s fun G0 H0 v e0 s0 r0 => by
  obtain ⟨a, dx, fv, rfl, hH, hfl⟩ := id r0
  refine ⟨a, dx, fv, rfl, s0.same _ _ hH, hfl.no hm, ?_⟩
  refine ha.at s0 fun G1 H1 vs L e1 sl la r => ?_
  refine ⟨x, G1, L ++ L0, hp, la, .cons (hB _ _ _ ((insR C fs).up e1 r0)) r, ?_⟩
  rw [hR]
  exact fun G2 H2 d e2 l2 hd => q G2 H2 d ((e0.trans e1).trans e2) ⟨L, sl.up e2, l2⟩ hd⟩
end
end Z

set_option Elab.async false
set_option linter.all false
set_option maxRecDepth 100000
set_option maxHeartbeats 2000000
set_option exponentiation.threshold 4000
/-! Zm: data that may be compared, and shown. -/
namespace Z
open PySem PySem.Spec PyProof.Rows L2
/-- no strings' surprises, at most this deep -/
structure Sh (k : Nat) (d : PyData) : Prop where
  lay : d.canLay0 = true
  deep : d.depth ≤ k
theorem sh_int {k : Nat} {i : Int} : Sh k (.int i) := ⟨rfl, Nat.zero_le _⟩
theorem sh_bool {k : Nat} {b : Bool} : Sh k (.bool b) := ⟨rfl, Nat.zero_le _⟩
theorem sh_none {k : Nat} : Sh k .none := ⟨rfl, Nat.zero_le _⟩
theorem canAll {xs : List PyData} (h : ∀ x ∈ xs, x.canLay0 = true) : PyData.canLayAll0 xs = true := by
  induction xs with
  | nil => rfl
  | cons x xs ih =>
    rw [PyData.canLayAll0, h x (List.mem_cons_self ..), ih fun y hy => h y (List.mem_cons_of_mem _ hy)]; rfl
theorem deepAll {k : Nat} {xs : List PyData} (h : ∀ x ∈ xs, x.depth ≤ k) : PyData.depthAll xs ≤ k := by
  induction xs with
  | nil => exact Nat.zero_le _
  | cons x xs ih =>
    rw [PyData.depthAll]
    exact Nat.max_le.mpr ⟨h x (List.mem_cons_self ..), ih fun y hy => h y (List.mem_cons_of_mem _ hy)⟩
theorem sh_list {k : Nat} {xs : List PyData} (h : ∀ x ∈ xs, Sh k x) : Sh (k + 1) (.list xs) := ⟨by rw [PyData.canLay0]; exact canAll fun x hx => (h x hx).lay, by rw [PyData.depth]; exact Nat.succ_le_succ (deepAll fun x hx => (h x hx).deep)⟩
theorem sh_tup {k : Nat} {xs : List PyData} (h : ∀ x ∈ xs, Sh k x) : Sh (k + 1) (.tuple xs) := ⟨by rw [PyData.canLay0]; exact canAll fun x hx => (h x hx).lay, by rw [PyData.depth]; exact Nat.succ_le_succ (deepAll fun x hx => (h x hx).deep)⟩
theorem sh_nil {k : Nat} : ∀ x ∈ ([] : List PyData), Sh k x := fun x h => nomatch h
theorem sh_cons {k : Nat} {d : PyData} {ds : List PyData} (h : Sh k d) (t : ∀ x ∈ ds, Sh k x) : ∀ x ∈ d :: ds, Sh k x := fun x hx => by
  rcases List.mem_cons.mp hx with rfl | hx
  · exact h
  · exact t x hx
theorem sh_map {α : Type} {k : Nat} {f : α → PyData} {xs : List α} (h : ∀ x ∈ xs, Sh k (f x)) : ∀ y ∈ xs.map f, Sh k y := fun y hy => by
  obtain ⟨x, hx, rfl⟩ := List.mem_map.mp hy
  exact h x hx
theorem Sh.shaped {k : Nat} {d : PyData} (h : Sh k d) (hk : k ≤ 64 := by decide) : SeqAt.shaped d = true := by
  unfold SeqAt.shaped
  rw [h.lay, decide_eq_true (Nat.le_trans h.deep hk)]; rfl
theorem Sh.refl {k : Nat} {d : PyData} (h : Sh k d) : PyData.eqv d d = true := SeqAt.eqv_refl d h.lay
/-- what repr shows -/
structure Sm (k w : Nat) (d : PyData) : Prop where
  sh : Sh k d
  wt : d.weight ≤ w
  short : d.intsShort 13 = true
  show_ : d.showable = true
theorem sm_int {k : Nat} {i : Int} (h : i.natAbs < 10 ^ 12) : Sm k 40 (.int i) := by
  refine ⟨sh_int, ?_, ?_, ?_⟩
  · rw [PyData.weight]
    by_cases z : i = 0
    · rw [if_pos (by simpa using z)]; decide
    · rw [if_neg (by simpa using z)]
      have : i.natAbs.log2 < 40 := (Nat.log2_lt (by omega)).mpr (by omega)
      omega
  · rw [PyData.intsShort]; exact decide_eq_true (PyData.shown_int_le h)
  · rw [PyData.showable]
    refine decide_eq_true ?_
    by_cases z : i.natAbs = 0
    · rw [z]; decide
    · exact (Nat.log2_lt z).mpr (Nat.lt_trans h (Nat.lt_of_lt_of_le (show 10 ^ 12 < 2 ^ 40 by decide) (Nat.pow_le_pow_right (by decide) (by decide))))
theorem shortAll {xs : List PyData} (h : ∀ x ∈ xs, x.intsShort 13 = true) : PyData.intsShortAll 13 xs = true := by
  induction xs with
  | nil => rfl
  | cons x xs ih =>
    rw [PyData.intsShortAll, h x (List.mem_cons_self ..), ih fun y hy => h y (List.mem_cons_of_mem _ hy)]; rfl
theorem showAll {xs : List PyData} (h : ∀ x ∈ xs, x.showable = true) : PyData.showableAll xs = true := by
  induction xs with
  | nil => rfl
  | cons x xs ih =>
    rw [PyData.showableAll, h x (List.mem_cons_self ..), ih fun y hy => h y (List.mem_cons_of_mem _ hy)]; rfl
theorem wtAll {w : Nat} {xs : List PyData} (h : ∀ x ∈ xs, x.weight ≤ w) : PyData.weightAll xs ≤ xs.length * (w + 1) := by
  induction xs with
  | nil => exact Nat.zero_le _
  | cons x xs ih =>
    rw [PyData.weightAll, List.length_cons, Nat.succ_mul]
    have := h x (List.mem_cons_self ..)
    have := ih fun y hy => h y (List.mem_cons_of_mem _ hy)
    omega
theorem sm_list {k w W : Nat} {xs : List PyData} (h : ∀ x ∈ xs, Sm k w x) (hw : xs.length * (w + 1) ≤ W) : Sm (k + 1) W (.list xs) :=
  ⟨sh_list fun x hx => (h x hx).sh, by rw [PyData.weight]; exact Nat.le_trans (wtAll fun x hx => (h x hx).wt) hw, by rw [PyData.intsShort]; exact shortAll fun x hx => (h x hx).short, by rw [PyData.showable]; exact showAll fun x hx => (h x hx).show_⟩
theorem sm_tup {k w W : Nat} {xs : List PyData} (h : ∀ x ∈ xs, Sm k w x) (hw : xs.length * (w + 1) ≤ W) : Sm (k + 1) W (.tuple xs) :=
  ⟨sh_tup fun x hx => (h x hx).sh, by rw [PyData.weight]; exact Nat.le_trans (wtAll fun x hx => (h x hx).wt) hw, by rw [PyData.intsShort]; exact shortAll fun x hx => (h x hx).short, by rw [PyData.showable]; exact showAll fun x hx => (h x hx).show_⟩
theorem Sm.mono {k w k' w' : Nat} {d : PyData} (h : Sm k w d) (hk : k ≤ k') (hw : w ≤ w') : Sm k' w' d := ⟨⟨h.sh.lay, Nat.le_trans h.sh.deep hk⟩, Nat.le_trans h.wt hw, h.short, h.show_⟩
theorem sm_nil {k w : Nat} : ∀ x ∈ ([] : List PyData), Sm k w x := fun x h => nomatch h
theorem sm_cons {k w : Nat} {d : PyData} {ds : List PyData} (h : Sm k w d) (t : ∀ x ∈ ds, Sm k w x) : ∀ x ∈ d :: ds, Sm k w x := fun x hx => by
  rcases List.mem_cons.mp hx with rfl | hx
  · exact h
  · exact t x hx
theorem sm_map {α : Type} {k w : Nat} {f : α → PyData} {xs : List α} (h : ∀ x ∈ xs, Sm k w (f x)) : ∀ y ∈ xs.map f, Sm k w y := fun y hy => by
  obtain ⟨x, hx, rfl⟩ := List.mem_map.mp hy
  exact h x hx
theorem Sm.len {k w : Nat} {d : PyData} (h : Sm k w d) (hk : k ≤ 60) (hw : w ≤ 2 ^ 20) : d.shown.length ≤ sizeLine := by
  refine Nat.le_trans (shown_le13 ?_ h.short) (by decide)
  unfold PyData.layable0
  rw [h.sh.lay, decide_eq_true (Nat.le_trans h.sh.deep (Nat.le_trans hk (by decide))), decide_eq_true (Nat.le_trans h.wt hw)]; rfl
/-- repr of such data -/
theorem cl_repr {k w : Nat} {xs : List PyData} (h : Sm k w (.tuple xs)) (hk : k ≤ 60 := by decide) (hw : w ≤ 2 ^ 20 := by decide) : Cl cRepr [pu (dat (.tuple xs))] (dat (.str (PyData.shown (.tuple xs)))) := fun G H L vs Q l r q => by
  cases r with
  | cons h1 t =>
    cases t
    have h1 : Dq G _ (.tuple xs) := h1
    cases h1 with
    | @tup a ys _ hv d =>
      exact ⟨a, .tuple xs, rfl, dp_up l.same (Dq.tup hv d), h.show_, PyData.hasDict_of_canLay _ h.sh.lay, Nat.le_trans h.sh.deep hk, h.len hk hw, q _ (Dq.str _)⟩
end Z

set_option Elab.async false
set_option linter.all false
set_option maxRecDepth 100000
set_option maxHeartbeats 2000000
/-! Zn: the script. -/
namespace Z
open PySem PySem.Spec PyProof.Rows L2
section
variable {K : PySem.W.Frag} {ρ : List Sl} {te : TE}
theorem sqL_up {H H' : Hp} {a : Addr} {xs : List V} (e : Same H H') (h : SqL K H a xs) : SqL K H' a xs := by
  rcases h with (h | ⟨o, h⟩) | h
  · exact .inl (.inl (e _ _ h))
  · exact .inl (.inr ⟨o, e _ _ h⟩)
  · exact .inr h
/-- the script: whole numbers, wherever they stand -/
def scR (K : PySem.W.Frag) (xs : List Int) : Rp := ⟨fun G v => ∃ a, v = .ref a ∧ SqL K G a (xs.map V.int), fun e h => by
  obtain ⟨a, r, q⟩ := h
  exact ⟨a, r, sqL_up e q⟩⟩
theorem cl_lenS {xs : List Int} : Cl (cLen K) [pu (scR K xs)] (dI xs.length) := fun G H L vs Q l r q => by
  cases r with
  | cons h t =>
    cases t
    obtain ⟨a, rfl, hv⟩ := h
    refine ⟨a, _, rfl, .inl (sqL_up l.same hv), q _ ?_⟩
    rw [List.length_map]
    exact Dq.int _
theorem atI_V {α : Type} {en : α → V} {xs : List α} {i : Int} {x : α} (h0 : 0 ≤ i) (h : xs[i.toNat]? = some x) : atI (xs.map en) i = some (en x) := by
  obtain ⟨hl, rfl⟩ := List.getElem?_eq_some_iff.mp h
  unfold atI ixN
  rw [if_pos h0, if_pos (by rw [List.length_map]; omega)]
  show (xs.map en)[i.toNat]? = _
  rw [List.getElem?_map, h]
  rfl
theorem o_ixS {xs : List Int} {i x : Int} (h0 : 0 ≤ i) (h : xs[i.toNat]? = some x) : Op2 (rIxL K) (pu (scR K xs)) (pu (dI i)) (dI x) := fun G H L v y Q l hx hy q => by
  obtain ⟨a, rfl, hv⟩ := hx
  cases hy
  exact ⟨a, _, i, _, rfl, rfl, sqL_up l.same hv, atI_V h0 h, q _ (Dq.int _)⟩
theorem ev_sS {xs : List Int} (h : Ev te ρ (pu (scR K xs))) : EvS K te ρ (xs.map .int) := ⟨fun Q s q => h.atp s fun G' H' v e s' r => by
  obtain ⟨a, rfl, hv⟩ := r
  exact q G' H' a _ e s' (fun G'' L'' H'' e2 l => sqL_up l.same (sqL_up e2 hv)) (dpAll_of_ints xs)⟩
end
theorem o_eqS {a b : Str} : Op2 rEq (pu (dat (.str a))) (pu (dat (.str b))) (dB (decide (a = b))) := fun G H L x y Q _ hx hy q => by
  cases hx; cases hy
  refine ⟨rfl, q _ ?_⟩
  have e : decide (V.str a = V.str b) = decide (a = b) := by rw [Bool.eq_iff_iff]; simp
  rw [e]
  exact Dq.bl _
theorem o_neS {a b : Str} : Op2 rNe (pu (dat (.str a))) (pu (dat (.str b))) (dB (!decide (a = b))) := fun G H L x y Q _ hx hy q => by
  cases hx; cases hy
  refine ⟨rfl, q _ ?_⟩
  have e : decide (V.str a = V.str b) = decide (a = b) := by rw [Bool.eq_iff_iff]; simp
  rw [e]
  exact Dq.bl _
/-- an error of the class at C is what «except S» names -/
theorem exm_of {K : PySem.W.Frag} {C S : Addr} (h1 : PySem.W.subIn K (.ref S) (.type "BaseException") = some true) (h2 : PySem.W.isClsIn K S = true) (h3 : PySem.W.typeIn K (.ref S) = some (.type "type")) (h4 : PySem.W.subIn K (.ref C) (.ref S) = some true) :
    PySem.W.exmOne K (.ref C) (.ref S) = some true := by
  have e1 : (PySem.W.subIn K (.ref S) (.type "BaseException") == some true) = true := by rw [h1] <;> rfl
  have e2 : ((PySem.W.clsIn K S).isSome && PySem.W.typeIn K (.ref S) == some (.type "type")) = true := by
    have h2' : (PySem.W.clsIn K S).isSome = true := h2
    rw [h2', h3] <;> rfl
  show (if (PySem.W.subIn K (.ref S) (.type "BaseException") == some true) = true then (if ((PySem.W.clsIn K S).isSome && PySem.W.typeIn K (.ref S) == some (.type "type")) = true then PySem.W.subIn K (.ref C) (.ref S) else none) else none) = some true
  rw [if_pos e1, if_pos e2]
  exact h4
theorem room64 {k : Nat} {A : Around} (r : Room k A) : A.units + 64 < cLine := by have := r.un; omega
theorem room70 {k : Nat} {A : Around} (r : Room k A) : A.units + 70 < cLine := by have := r.un; omega
end Z

set_option Elab.async false
set_option linter.all false
set_option maxRecDepth 100000
set_option maxHeartbeats 4000000
namespace Q
open PySem PySem.Spec PyProof.Rows L2 Z
def topS (i : Nat) : Stmt := PySem.Challenge.pw_trunkweb_k00_networks.main.body.getD i (.Pass ⟨0, 0, 0, 0⟩)
abbrev s_WebError___init__ : Stmt := inClass (topS 1) 0
abbrev N_WebError___init__ : List Str := ["self", "at"]
theorem sc_WebError___init__ : FnScope ["self", "at"] ["self", "at"] (defScope s_WebError___init__) := ⟨rfl, rfl, rfl, by decide +kernel, rfl, by decide +kernel, by decide +kernel⟩
abbrev s_need_vertex : Stmt := topS 8
abbrev N_need_vertex : List Str := ["size", "vertex"]
theorem sc_need_vertex : FnScope ["size", "vertex"] ["size", "vertex"] (defScope s_need_vertex) := ⟨rfl, rfl, rfl, by decide +kernel, rfl, by decide +kernel, by decide +kernel⟩
abbrev s_is_size : Stmt := topS 13
abbrev N_is_size : List Str := ["size"]
theorem sc_is_size : FnScope ["size"] ["size"] (defScope s_is_size) := ⟨rfl, rfl, rfl, by decide +kernel, rfl, by decide +kernel, by decide +kernel⟩
abbrev s_is_price : Stmt := topS 14
abbrev N_is_price : List Str := ["price"]
theorem sc_is_price : FnScope ["price"] ["price"] (defScope s_is_price) := ⟨rfl, rfl, rfl, by decide +kernel, rfl, by decide +kernel, by decide +kernel⟩
abbrev s_are_ends : Stmt := topS 15
abbrev N_are_ends : List Str := ["size", "u", "v"]
theorem sc_are_ends : FnScope ["size", "u", "v"] ["size", "u", "v"] (defScope s_are_ends) := ⟨rfl, rfl, rfl, by decide +kernel, rfl, by decide +kernel, by decide +kernel⟩
abbrev s_Network___init__ : Stmt := inClass (topS 16) 0
abbrev N_Network___init__ : List Str := ["self", "size", "edges", "number", "u", "v", "price"]
theorem sc_Network___init__ : FnScope ["self", "size", "edges", "number", "u", "v", "price"] ["self", "size", "edges"] (defScope s_Network___init__) := ⟨rfl, rfl, rfl, by decide +kernel, rfl, by decide +kernel, by decide +kernel⟩
abbrev s_Network_size : Stmt := inClass (topS 16) 1
abbrev N_Network_size : List Str := ["self"]
theorem sc_Network_size : FnScope ["self"] ["self"] (defScope s_Network_size) := ⟨rfl, rfl, rfl, by decide +kernel, rfl, by decide +kernel, by decide +kernel⟩
abbrev s_Network_edges : Stmt := inClass (topS 16) 2
abbrev N_Network_edges : List Str := ["self"]
theorem sc_Network_edges : FnScope ["self"] ["self"] (defScope s_Network_edges) := ⟨rfl, rfl, rfl, by decide +kernel, rfl, by decide +kernel, by decide +kernel⟩
abbrev s_Network_around : Stmt := inClass (topS 16) 3
abbrev N_Network_around : List Str := ["self", "vertex", "number", "edge"]
theorem sc_Network_around : FnScope ["self", "vertex", "number", "edge"] ["self", "vertex"] (defScope s_Network_around) := ⟨rfl, rfl, rfl, by decide +kernel, rfl, by decide +kernel, by decide +kernel⟩
abbrev s_Network_leaving : Stmt := inClass (topS 16) 4
abbrev N_Network_leaving : List Str := ["self", "vertex", "number", "edge"]
theorem sc_Network_leaving : FnScope ["self", "vertex", "number", "edge"] ["self", "vertex"] (defScope s_Network_leaving) := ⟨rfl, rfl, rfl, by decide +kernel, rfl, by decide +kernel, by decide +kernel⟩
abbrev s_Network_entering : Stmt := inClass (topS 16) 5
abbrev N_Network_entering : List Str := ["self", "vertex", "number", "edge"]
theorem sc_Network_entering : FnScope ["self", "vertex", "number", "edge"] ["self", "vertex"] (defScope s_Network_entering) := ⟨rfl, rfl, rfl, by decide +kernel, rfl, by decide +kernel, by decide +kernel⟩
abbrev s_Network_other_end : Stmt := inClass (topS 16) 6
abbrev N_Network_other_end : List Str := ["self", "number", "vertex", "u", "v", "_"]
theorem sc_Network_other_end : FnScope ["self", "number", "vertex", "u", "v", "_"] ["self", "number", "vertex"] (defScope s_Network_other_end) := ⟨rfl, rfl, rfl, by decide +kernel, rfl, by decide +kernel, by decide +kernel⟩
abbrev s_Network_with_price : Stmt := inClass (topS 16) 7
abbrev N_Network_with_price : List Str := ["self", "number", "price", "edges", "u", "v", "_"]
theorem sc_Network_with_price : FnScope ["self", "number", "price", "edges", "u", "v", "_"] ["self", "number", "price"] (defScope s_Network_with_price) := ⟨rfl, rfl, rfl, by decide +kernel, rfl, by decide +kernel, by decide +kernel⟩
abbrev s_law_draws : Stmt := topS 18
abbrev N_law_draws : List Str := ["script", "draws", "k", "rest", "turn", "mixed"]
theorem sc_law_draws : FnScope ["script", "draws", "k", "rest", "turn", "mixed"] ["script"] (defScope s_law_draws) := ⟨rfl, rfl, rfl, by decide +kernel, rfl, by decide +kernel, by decide +kernel⟩
abbrev s_law_mix : Stmt := topS 19
abbrev N_law_mix : List Str := ["draws", "k", "many", "value"]
theorem sc_law_mix : FnScope ["draws", "k", "many", "value"] ["draws", "k", "many"] (defScope s_law_mix) := ⟨rfl, rfl, rfl, by decide +kernel, rfl, by decide +kernel, by decide +kernel⟩
abbrev s_law_network : Stmt := topS 20
abbrev N_law_network : List Str := ["draws", "k", "sizes", "many", "top", "size", "edges", "j", "u", "v"]
theorem sc_law_network : FnScope ["draws", "k", "sizes", "many", "top", "size", "edges", "j", "u", "v"] ["draws", "k", "sizes", "many", "top"] (defScope s_law_network) := ⟨rfl, rfl, rfl, by decide +kernel, rfl, by decide +kernel, by decide +kernel⟩
abbrev s_law_made : Stmt := topS 21
abbrev N_law_made : List Str := ["size", "edges", "error", "kinds"]
theorem sc_law_made : FnScope ["size", "edges", "error", "kinds"] ["size", "edges"] (defScope s_law_made) := ⟨rfl, rfl, rfl, by decide +kernel, rfl, by decide +kernel, by decide +kernel⟩
abbrev s_law_due : Stmt := topS 22
abbrev N_law_due : List Str := ["size", "edges", "k", "u", "v", "price"]
theorem sc_law_due : FnScope ["size", "edges", "k", "u", "v", "price"] ["size", "edges"] (defScope s_law_due) := ⟨rfl, rfl, rfl, by decide +kernel, rfl, by decide +kernel, by decide +kernel⟩
abbrev s_law_refused : Stmt := topS 23
abbrev N_law_refused : List Str := ["way", "network", "number", "price", "error"]
theorem sc_law_refused : FnScope ["way", "network", "number", "price", "error"] ["way", "network", "number", "price"] (defScope s_law_refused) := ⟨rfl, rfl, rfl, by decide +kernel, rfl, by decide +kernel, by decide +kernel⟩
abbrev s_law_alike : Stmt := topS 24
abbrev N_law_alike : List Str := ["network", "size", "edges", "vertex", "k", "around"]
theorem sc_law_alike : FnScope ["network", "size", "edges", "vertex", "k", "around"] ["network", "size", "edges"] (defScope s_law_alike) := ⟨rfl, rfl, rfl, by decide +kernel, rfl, by decide +kernel, by decide +kernel⟩
abbrev s_law_bad_ones : Stmt := topS 25
abbrev N_law_bad_ones : List Str := ["draws", "size", "edges", "rows", "turn", "bad", "j", "u", "v", "price", "edge", "at"]
theorem sc_law_bad_ones : FnScope ["draws", "size", "edges", "rows", "turn", "bad", "j", "u", "v", "price", "edge", "at"] ["draws", "size", "edges"] (defScope s_law_bad_ones) := ⟨rfl, rfl, rfl, by decide +kernel, rfl, by decide +kernel, by decide +kernel⟩
abbrev s_law : Stmt := topS 26
abbrev N_law : List Str := ["script", "draws", "wide", "top", "size", "edges", "kept", "network", "row", "before", "wrong", "way", "turn", "k", "price", "other", "due"]
theorem sc_law : FnScope ["script", "draws", "wide", "top", "size", "edges", "kept", "network", "row", "before", "wrong", "way", "turn", "k", "price", "other", "due"] ["script"] (defScope s_law) := ⟨rfl, rfl, rfl, by decide +kernel, rfl, by decide +kernel, by decide +kernel⟩
/-- what the top says -/
structure Tx (K : PySem.W.Frag) (mg : Str → Option Value) where
  f_WebError___init__ : Addr
  fd_WebError___init__ : FuncData
  F_WebError___init__ : Fun K "__init__" "WebError.__init__" s_WebError___init__ f_WebError___init__ fd_WebError___init__
  b_WebError___init__ : Binds K fd_WebError___init__ ["self", "at"] []
  f_need_vertex : Addr
  fd_need_vertex : FuncData
  F_need_vertex : Fun K "need_vertex" "need_vertex" s_need_vertex f_need_vertex fd_need_vertex
  b_need_vertex : Binds K fd_need_vertex ["size", "vertex"] []
  g_need_vertex : mg "need_vertex" = some (.ref f_need_vertex)
  f_is_size : Addr
  fd_is_size : FuncData
  F_is_size : Fun K "is_size" "is_size" s_is_size f_is_size fd_is_size
  b_is_size : Binds K fd_is_size ["size"] []
  g_is_size : mg "is_size" = some (.ref f_is_size)
  f_is_price : Addr
  fd_is_price : FuncData
  F_is_price : Fun K "is_price" "is_price" s_is_price f_is_price fd_is_price
  b_is_price : Binds K fd_is_price ["price"] []
  g_is_price : mg "is_price" = some (.ref f_is_price)
  f_are_ends : Addr
  fd_are_ends : FuncData
  F_are_ends : Fun K "are_ends" "are_ends" s_are_ends f_are_ends fd_are_ends
  b_are_ends : Binds K fd_are_ends ["size", "u", "v"] []
  g_are_ends : mg "are_ends" = some (.ref f_are_ends)
  f_Network___init__ : Addr
  fd_Network___init__ : FuncData
  F_Network___init__ : Fun K "__init__" "Network.__init__" s_Network___init__ f_Network___init__ fd_Network___init__
  b_Network___init__ : Binds K fd_Network___init__ ["self", "size", "edges"] []
  f_Network_size : Addr
  fd_Network_size : FuncData
  F_Network_size : Fun K "size" "Network.size" s_Network_size f_Network_size fd_Network_size
  b_Network_size : Binds K fd_Network_size ["self"] []
  f_Network_edges : Addr
  fd_Network_edges : FuncData
  F_Network_edges : Fun K "edges" "Network.edges" s_Network_edges f_Network_edges fd_Network_edges
  b_Network_edges : Binds K fd_Network_edges ["self"] []
  f_Network_around : Addr
  fd_Network_around : FuncData
  F_Network_around : Fun K "around" "Network.around" s_Network_around f_Network_around fd_Network_around
  b_Network_around : Binds K fd_Network_around ["self", "vertex"] []
  f_Network_leaving : Addr
  fd_Network_leaving : FuncData
  F_Network_leaving : Fun K "leaving" "Network.leaving" s_Network_leaving f_Network_leaving fd_Network_leaving
  b_Network_leaving : Binds K fd_Network_leaving ["self", "vertex"] []
  f_Network_entering : Addr
  fd_Network_entering : FuncData
  F_Network_entering : Fun K "entering" "Network.entering" s_Network_entering f_Network_entering fd_Network_entering
  b_Network_entering : Binds K fd_Network_entering ["self", "vertex"] []
  f_Network_other_end : Addr
  fd_Network_other_end : FuncData
  F_Network_other_end : Fun K "other_end" "Network.other_end" s_Network_other_end f_Network_other_end fd_Network_other_end
  b_Network_other_end : Binds K fd_Network_other_end ["self", "number", "vertex"] []
  f_Network_with_price : Addr
  fd_Network_with_price : FuncData
  F_Network_with_price : Fun K "with_price" "Network.with_price" s_Network_with_price f_Network_with_price fd_Network_with_price
  b_Network_with_price : Binds K fd_Network_with_price ["self", "number", "price"] []
  f_law_draws : Addr
  fd_law_draws : FuncData
  F_law_draws : Fun K "_law_draws" "_law_draws" s_law_draws f_law_draws fd_law_draws
  b_law_draws : Binds K fd_law_draws ["script"] []
  g_law_draws : mg "_law_draws" = some (.ref f_law_draws)
  f_law_mix : Addr
  fd_law_mix : FuncData
  F_law_mix : Fun K "_law_mix" "_law_mix" s_law_mix f_law_mix fd_law_mix
  b_law_mix : Binds K fd_law_mix ["draws", "k", "many"] []
  g_law_mix : mg "_law_mix" = some (.ref f_law_mix)
  f_law_network : Addr
  fd_law_network : FuncData
  F_law_network : Fun K "_law_network" "_law_network" s_law_network f_law_network fd_law_network
  b_law_network : Binds K fd_law_network ["draws", "k", "sizes", "many", "top"] []
  g_law_network : mg "_law_network" = some (.ref f_law_network)
  f_law_made : Addr
  fd_law_made : FuncData
  F_law_made : Fun K "_law_made" "_law_made" s_law_made f_law_made fd_law_made
  b_law_made : Binds K fd_law_made ["size", "edges"] []
  g_law_made : mg "_law_made" = some (.ref f_law_made)
  f_law_due : Addr
  fd_law_due : FuncData
  F_law_due : Fun K "_law_due" "_law_due" s_law_due f_law_due fd_law_due
  b_law_due : Binds K fd_law_due ["size", "edges"] []
  g_law_due : mg "_law_due" = some (.ref f_law_due)
  f_law_refused : Addr
  fd_law_refused : FuncData
  F_law_refused : Fun K "_law_refused" "_law_refused" s_law_refused f_law_refused fd_law_refused
  b_law_refused : Binds K fd_law_refused ["way", "network", "number", "price"] []
  g_law_refused : mg "_law_refused" = some (.ref f_law_refused)
  f_law_alike : Addr
  fd_law_alike : FuncData
  F_law_alike : Fun K "_law_alike" "_law_alike" s_law_alike f_law_alike fd_law_alike
  b_law_alike : Binds K fd_law_alike ["network", "size", "edges"] []
  g_law_alike : mg "_law_alike" = some (.ref f_law_alike)
  f_law_bad_ones : Addr
  fd_law_bad_ones : FuncData
  F_law_bad_ones : Fun K "_law_bad_ones" "_law_bad_ones" s_law_bad_ones f_law_bad_ones fd_law_bad_ones
  b_law_bad_ones : Binds K fd_law_bad_ones ["draws", "size", "edges"] []
  g_law_bad_ones : mg "_law_bad_ones" = some (.ref f_law_bad_ones)
  f_law : Addr
  fd_law : FuncData
  F_law : Fun K "law" "law" s_law f_law fd_law
  b_law : Binds K fd_law ["script"] []
  g_law : mg "law" = some (.ref f_law)
  c_Network : Addr
  g_Network : mg "Network" = some (.ref c_Network)
  cl_Network : Cls K c_Network
  mk_Network : Mk K c_Network f_Network___init__
  m_Network_size : Meth K c_Network "size" f_Network_size
  m_Network_edges : Meth K c_Network "edges" f_Network_edges
  m_Network_around : Meth K c_Network "around" f_Network_around
  m_Network_leaving : Meth K c_Network "leaving" f_Network_leaving
  m_Network_entering : Meth K c_Network "entering" f_Network_entering
  m_Network_other_end : Meth K c_Network "other_end" f_Network_other_end
  m_Network_with_price : Meth K c_Network "with_price" f_Network_with_price
  na_Network__size : NoAttr K c_Network "_size"
  na_Network__edges : NoAttr K c_Network "_edges"
  c_WebError : Addr
  x_WebError : OexC K c_WebError ∧ PySem.W.findIn K (.ref c_WebError) "at" = some none ∧ PySem.W.findIn K (.ref c_WebError) "__init__" = some (some (.ref f_WebError___init__)) ∧ PySem.W.typeIn K (.ref f_WebError___init__) = some (.type "function") ∧ mg "WebError" = some (.ref c_WebError)
  e_WebError : ExcC K c_WebError
  ef_WebError : XfC K c_WebError
  c_OutOfRange : Addr
  x_OutOfRange : OexC K c_OutOfRange ∧ PySem.W.findIn K (.ref c_OutOfRange) "at" = some none ∧ PySem.W.findIn K (.ref c_OutOfRange) "__init__" = some (some (.ref f_WebError___init__)) ∧ PySem.W.typeIn K (.ref f_WebError___init__) = some (.type "function") ∧ mg "OutOfRange" = some (.ref c_OutOfRange)
  e_OutOfRange : ExcC K c_OutOfRange
  ef_OutOfRange : XfC K c_OutOfRange
  c_BadVertex : Addr
  x_BadVertex : OexC K c_BadVertex ∧ PySem.W.findIn K (.ref c_BadVertex) "at" = some none ∧ PySem.W.findIn K (.ref c_BadVertex) "__init__" = some (some (.ref f_WebError___init__)) ∧ PySem.W.typeIn K (.ref f_WebError___init__) = some (.type "function") ∧ mg "BadVertex" = some (.ref c_BadVertex)
  e_BadVertex : ExcC K c_BadVertex
  ef_BadVertex : XfC K c_BadVertex
  c_BadPrice : Addr
  x_BadPrice : OexC K c_BadPrice ∧ PySem.W.findIn K (.ref c_BadPrice) "at" = some none ∧ PySem.W.findIn K (.ref c_BadPrice) "__init__" = some (some (.ref f_WebError___init__)) ∧ PySem.W.typeIn K (.ref f_WebError___init__) = some (.type "function") ∧ mg "BadPrice" = some (.ref c_BadPrice)
  e_BadPrice : ExcC K c_BadPrice
  ef_BadPrice : XfC K c_BadPrice
  c_BadEdge : Addr
  x_BadEdge : OexC K c_BadEdge ∧ PySem.W.findIn K (.ref c_BadEdge) "at" = some none ∧ PySem.W.findIn K (.ref c_BadEdge) "__init__" = some (some (.ref f_WebError___init__)) ∧ PySem.W.typeIn K (.ref f_WebError___init__) = some (.type "function") ∧ mg "BadEdge" = some (.ref c_BadEdge)
  e_BadEdge : ExcC K c_BadEdge
  ef_BadEdge : XfC K c_BadEdge
  c_TooMany : Addr
  x_TooMany : OexC K c_TooMany ∧ PySem.W.findIn K (.ref c_TooMany) "at" = some none ∧ PySem.W.findIn K (.ref c_TooMany) "__init__" = some (some (.ref f_WebError___init__)) ∧ PySem.W.typeIn K (.ref f_WebError___init__) = some (.type "function") ∧ mg "TooMany" = some (.ref c_TooMany)
  e_TooMany : ExcC K c_TooMany
  ef_TooMany : XfC K c_TooMany
  em_OutOfRange : PySem.W.exmOne K (.ref c_OutOfRange) (.ref c_WebError) = some true
  is_OutOfRange_OutOfRange : PySem.W.kitOne K (.ref c_OutOfRange) (.ref c_OutOfRange) = some true
  is_OutOfRange_BadVertex : PySem.W.kitOne K (.ref c_OutOfRange) (.ref c_BadVertex) = some false
  is_OutOfRange_BadPrice : PySem.W.kitOne K (.ref c_OutOfRange) (.ref c_BadPrice) = some false
  is_OutOfRange_BadEdge : PySem.W.kitOne K (.ref c_OutOfRange) (.ref c_BadEdge) = some false
  is_OutOfRange_TooMany : PySem.W.kitOne K (.ref c_OutOfRange) (.ref c_TooMany) = some false
  em_BadVertex : PySem.W.exmOne K (.ref c_BadVertex) (.ref c_WebError) = some true
  is_BadVertex_OutOfRange : PySem.W.kitOne K (.ref c_BadVertex) (.ref c_OutOfRange) = some false
  is_BadVertex_BadVertex : PySem.W.kitOne K (.ref c_BadVertex) (.ref c_BadVertex) = some true
  is_BadVertex_BadPrice : PySem.W.kitOne K (.ref c_BadVertex) (.ref c_BadPrice) = some false
  is_BadVertex_BadEdge : PySem.W.kitOne K (.ref c_BadVertex) (.ref c_BadEdge) = some false
  is_BadVertex_TooMany : PySem.W.kitOne K (.ref c_BadVertex) (.ref c_TooMany) = some false
  em_BadPrice : PySem.W.exmOne K (.ref c_BadPrice) (.ref c_WebError) = some true
  is_BadPrice_OutOfRange : PySem.W.kitOne K (.ref c_BadPrice) (.ref c_OutOfRange) = some false
  is_BadPrice_BadVertex : PySem.W.kitOne K (.ref c_BadPrice) (.ref c_BadVertex) = some false
  is_BadPrice_BadPrice : PySem.W.kitOne K (.ref c_BadPrice) (.ref c_BadPrice) = some true
  is_BadPrice_BadEdge : PySem.W.kitOne K (.ref c_BadPrice) (.ref c_BadEdge) = some false
  is_BadPrice_TooMany : PySem.W.kitOne K (.ref c_BadPrice) (.ref c_TooMany) = some false
  em_BadEdge : PySem.W.exmOne K (.ref c_BadEdge) (.ref c_WebError) = some true
  is_BadEdge_OutOfRange : PySem.W.kitOne K (.ref c_BadEdge) (.ref c_OutOfRange) = some false
  is_BadEdge_BadVertex : PySem.W.kitOne K (.ref c_BadEdge) (.ref c_BadVertex) = some false
  is_BadEdge_BadPrice : PySem.W.kitOne K (.ref c_BadEdge) (.ref c_BadPrice) = some false
  is_BadEdge_BadEdge : PySem.W.kitOne K (.ref c_BadEdge) (.ref c_BadEdge) = some true
  is_BadEdge_TooMany : PySem.W.kitOne K (.ref c_BadEdge) (.ref c_TooMany) = some false
  em_TooMany : PySem.W.exmOne K (.ref c_TooMany) (.ref c_WebError) = some true
  is_TooMany_OutOfRange : PySem.W.kitOne K (.ref c_TooMany) (.ref c_OutOfRange) = some false
  is_TooMany_BadVertex : PySem.W.kitOne K (.ref c_TooMany) (.ref c_BadVertex) = some false
  is_TooMany_BadPrice : PySem.W.kitOne K (.ref c_TooMany) (.ref c_BadPrice) = some false
  is_TooMany_BadEdge : PySem.W.kitOne K (.ref c_TooMany) (.ref c_BadEdge) = some false
  is_TooMany_TooMany : PySem.W.kitOne K (.ref c_TooMany) (.ref c_TooMany) = some true
  z_len : mg "len" = none
  z_range : mg "range" = none
  z_min : mg "min" = none
  z_abs : mg "abs" = none
  z_int : mg "int" = none
  z_list : mg "list" = none
  z_enumerate : mg "enumerate" = none
  z_repr : mg "repr" = none
  z_isinstance : mg "isinstance" = none
  z_ValueError : mg "ValueError" = none
  t_MOST_VERTICES : Tok
  k_MOST_VERTICES : mg "MOST_VERTICES" = some (.int 40 t_MOST_VERTICES)
  t_MOST_EDGES : Tok
  k_MOST_EDGES : mg "MOST_EDGES" = some (.int 200 t_MOST_EDGES)
  t_MOST_PRICE : Tok
  k_MOST_PRICE : mg "MOST_PRICE" = some (.int 1048576 t_MOST_PRICE)

abbrev E3 := Int × Int × Int
def eE (e : E3) : PyData := .tuple [.int e.1, .int e.2.1, .int e.2.2]
def eI (xs : List Int) : PyData := .list (xs.map .int)
def eEs (es : List E3) : PyData := .list (es.map eE)
/-- a number drawn -/
def mixV (ds : List Int) (k : Int) : Int := if 0 < (ds.length : Int) then ds.getD (k % ds.length).toNat 0 else 0
def mix (ds : List Int) (k many : Int) : Int := if k < ds.length then mixV ds k % many else ((mixV ds k * 7919 + k * 104729) / 3) % many
theorem mix_bd {ds : List Int} {k many : Int} (h : 0 < many) : 0 ≤ mix ds k many ∧ mix ds k many < many := by
  unfold mix
  split
  · exact ⟨Int.emod_nonneg _ (by omega), Int.emod_lt_of_pos _ h⟩
  · exact ⟨Int.emod_nonneg _ (by omega), Int.emod_lt_of_pos _ h⟩
theorem atI_map {α : Type} {en : α → PyData} {xs : List α} {i : Int} {x : α} (h0 : 0 ≤ i) (h : xs[i.toNat]? = some x) : atI (xs.map en) i = some (en x) := by
  obtain ⟨hl, rfl⟩ := List.getElem?_eq_some_iff.mp h
  unfold atI ixN
  rw [if_pos h0, if_pos (by rw [List.length_map]; omega)]
  show (xs.map en)[i.toNat]? = _
  rw [List.getElem?_map, h]
  rfl
theorem atI_ints {ds : List Int} {i : Int} (h0 : 0 ≤ i) (h1 : i < ds.length) : atI (ds.map PyData.int) i = some (.int (ds.getD i.toNat 0)) := by
  refine atI_map h0 ?_
  rw [List.getD_eq_getElem?_getD, List.getElem?_eq_getElem (by omega)]
  rfl
/-! what is good -/
inductive EK where
  | oor | bv | bp | be | tm
def isSize (n : Int) : Bool := decide (1 ≤ n) && decide (n ≤ 40)
def isPrice (p : Int) : Bool := decide (0 ≤ p) && decide (p ≤ 1048576)
def isEnds (n u v : Int) : Bool := (decide (0 ≤ u) && decide (u < n)) && ((decide (0 ≤ v) && decide (v < n)) && !decide (u = v))
def isVert (n v : Int) : Bool := decide (0 ≤ v) && decide (v < n)
def badEdge (n : Int) (e : E3) : Option EK := if isEnds n e.1 e.2.1 = true then (if isPrice e.2.2 = true then none else some .bp) else some .bv
def firstBad (n : Int) : List (E3 × Nat) → Option (EK × Int)
  | [] => none
  | p :: r => match badEdge n p.1 with
    | some k => some (k, (p.2 : Int))
    | none => firstBad n r
def netErr (n : Int) (es : List E3) : Option (EK × Int) := if isSize n = true then (if 200 < (es.length : Int) then some (.tm, (es.length : Int)) else firstBad n es.zipIdx) else some (.oor, n)
def netF (n : Int) (es : List E3) : List (Str × Rp) := [("_size", dI n), ("_edges", dat (eEs es))]
def Good (n : Int) (es : List E3) : Prop := netErr n es = none

theorem badEdge_cases (n : Int) (e : E3) : (isEnds n e.1 e.2.1 = false ∧ badEdge n e = some .bv) ∨ (isEnds n e.1 e.2.1 = true ∧ isPrice e.2.2 = false ∧ badEdge n e = some .bp) ∨ (isEnds n e.1 e.2.1 = true ∧ isPrice e.2.2 = true ∧ badEdge n e = none) := by
  unfold badEdge
  cases isEnds n e.1 e.2.1 <;> cases isPrice e.2.2 <;> simp
def aroundL (es : List E3) (v : Int) : List Int := (es.zipIdx.filter fun p => decide (v ∈ [p.1.1, p.1.2.1])).map fun p => (p.2 : Int)
def leavingL (es : List E3) (v : Int) : List Int := (es.zipIdx.filter fun p => decide (p.1.1 = v)).map fun p => (p.2 : Int)
def enteringL (es : List E3) (v : Int) : List Int := (es.zipIdx.filter fun p => decide (p.1.2.1 = v)).map fun p => (p.2 : Int)
def otherEnd (es : List E3) (k v : Int) : Int := if (es.getD k.toNat (0, 0, 0)).1 = v then (es.getD k.toNat (0, 0, 0)).2.1 else (es.getD k.toNat (0, 0, 0)).1

def Tx.cls {K : PySem.W.Frag} {mg : Str → Option Value} (T : Tx K mg) : EK → Addr
  | .oor => T.c_OutOfRange
  | .bv => T.c_BadVertex
  | .bp => T.c_BadPrice
  | .be => T.c_BadEdge
  | .tm => T.c_TooMany
def netR {K : PySem.W.Frag} {mg : Str → Option Value} (T : Tx K mg) (n : Int) (es : List E3) : Rp := insR T.c_Network (netF n es)
section
variable {K : PySem.W.Frag} {mg : Str → Option Value} (T : Tx K mg)
def sp_WebError___init__ : Sp := spAt K
def sp_need_vertex : Sp := SpA (α := Int × Int) (fun _ => True) (fun x => [pu (dI x.1), pu (dI x.2)]) (fun x => if isVert x.1 x.2 = true then .ok (dat .none) else .err T.c_BadVertex x.2)
def sp_is_size (_ : Tx K mg) : Sp := SpA (α := Int) (fun _ => True) (fun x => [pu (dI x)]) (fun x => .ok (dB (isSize x)))
def sp_is_price (_ : Tx K mg) : Sp := SpA (α := Int) (fun _ => True) (fun x => [pu (dI x)]) (fun x => .ok (dB (isPrice x)))
def sp_are_ends (_ : Tx K mg) : Sp := SpA (α := Int × Int × Int) (fun _ => True) (fun x => [pu (dI x.1), pu (dI x.2.1), pu (dI x.2.2)]) (fun x => .ok (dB (isEnds x.1 x.2.1 x.2.2)))
def netI (x : Int × List E3) : IRes := match netErr x.1 x.2 with | some (k, a) => .err (T.cls k) a | none => .ok (netF x.1 x.2)
theorem netI_err {n : Int} {es : List E3} {k : EK} {a : Int} (h : netErr n es = some (k, a)) : netI T (n, es) = .err (T.cls k) a := by unfold netI; rw [h]
theorem netI_ok {n : Int} {es : List E3} (h : netErr n es = none) : netI T (n, es) = .ok (netF n es) := by unfold netI; rw [h]
def sp_Network___init__ : Sp := SpI (α := Int × List E3) T.c_Network (fun _ => True) (fun x => [pu (dI x.1), bL (x.2.map eE)]) (netI T)
def sp_Network_size : Sp := SpA (α := Int × List E3) (fun _ => True) (fun x => [pu (netR T x.1 x.2)]) (fun x => .ok (dI x.1))
def sp_Network_edges : Sp := SpA (α := Int × List E3) (fun _ => True) (fun x => [pu (netR T x.1 x.2)]) (fun x => .own (oL (x.2.map eE)))
def vertR (n v : Int) (l : List Int) : Res := if isVert n v = true then .own (oL (l.map .int)) else .err T.c_BadVertex v
def sp_Network_around : Sp := SpA (α := (Int × List E3) × Int) (fun x => x.1.2.length ≤ 200) (fun x => [pu (netR T x.1.1 x.1.2), pu (dI x.2)]) (fun x => vertR T x.1.1 x.2 (aroundL x.1.2 x.2))
def sp_Network_leaving : Sp := SpA (α := (Int × List E3) × Int) (fun x => x.1.2.length ≤ 200) (fun x => [pu (netR T x.1.1 x.1.2), pu (dI x.2)]) (fun x => vertR T x.1.1 x.2 (leavingL x.1.2 x.2))
def sp_Network_entering : Sp := SpA (α := (Int × List E3) × Int) (fun x => x.1.2.length ≤ 200) (fun x => [pu (netR T x.1.1 x.1.2), pu (dI x.2)]) (fun x => vertR T x.1.1 x.2 (enteringL x.1.2 x.2))
def sp_Network_other_end : Sp := SpA (α := (Int × List E3) × Int × Int) (fun x => 0 ≤ x.2.1 ∧ x.2.1 < x.1.2.length) (fun x => [pu (netR T x.1.1 x.1.2), pu (dI x.2.1), pu (dI x.2.2)]) (fun x => .ok (dI (otherEnd x.1.2 x.2.1 x.2.2)))
def withP (es : List E3) (k p : Int) : List E3 := es.set k.toNat ((es.getD k.toNat (0, 0, 0)).1, (es.getD k.toNat (0, 0, 0)).2.1, p)
def withR (x : (Int × List E3) × Int × Int) : Res := if isVert x.1.2.length x.2.1 = true then (match netErr x.1.1 (withP x.1.2 x.2.1 x.2.2) with | some (k, a) => .err (T.cls k) a | none => .ok (netR T x.1.1 (withP x.1.2 x.2.1 x.2.2))) else .err T.c_BadEdge x.2.1
def sp_Network_with_price : Sp := SpA (α := (Int × List E3) × Int × Int) (fun x => x.1.2.length ≤ 200) (fun x => [pu (netR T x.1.1 x.1.2), pu (dI x.2.1), pu (dI x.2.2)]) (withR T)
def sp_law_mix (_ : Tx K mg) : Sp := SpA (α := List Int × Int × Int) (fun x => 0 < x.2.2) (fun x => [bL (x.1.map .int), pu (dI x.2.1), pu (dI x.2.2)]) (fun x => .ok (dI (mix x.1 x.2.1 x.2.2)))
end
section
variable {K : PySem.W.Frag} {mg : Str → Option Value} {T : Tx K mg} {W : WX} {E : XK} {ρ : List Sl} {te ta tb tc : TE}
theorem c_is_size {n : Int} (h : Ev te ρ (pu (dI n))) : Ev (tCall (sp_is_size T) [] E (tCons te tNil)) ρ (pu (dB (isSize n))) := ev_call n (ea_cons h ea_nil) trivial rfl
theorem c_is_price {n : Int} (h : Ev te ρ (pu (dI n))) : Ev (tCall (sp_is_price T) [] E (tCons te tNil)) ρ (pu (dB (isPrice n))) := ev_call n (ea_cons h ea_nil) trivial rfl
theorem c_are_ends {n u v : Int} (h : Ev te ρ (pu (dI n))) (h1 : Ev ta ρ (pu (dI u))) (h2 : Ev tb ρ (pu (dI v))) : Ev (tCall (sp_are_ends T) [] E (tCons te (tCons ta (tCons tb tNil)))) ρ (pu (dB (isEnds n u v))) := ev_call (n, u, v) (ea_cons h (ea_cons h1 (ea_cons h2 ea_nil))) trivial rfl
theorem c_need_vertex {n v : Int} (c : isVert n v = true) (h : Ev te ρ (pu (dI n))) (h1 : Ev ta ρ (pu (dI v))) : Ev (tCall (sp_need_vertex T) [] E (tCons te (tCons ta tNil))) ρ (pu (dat .none)) := ev_call (n, v) (ea_cons h (ea_cons h1 ea_nil)) trivial (if_pos c)
theorem x_need_vertex {n v : Int} (c : ¬ isVert n v = true) (h : Ev te ρ (pu (dI n))) (h1 : Ev ta ρ (pu (dI v))) : EvX (WofE E) (tCall (sp_need_vertex T) [] E (tCons te (tCons ta tNil))) ρ T.c_BadVertex v := ex_call (n, v) (ea_cons h (ea_cons h1 ea_nil)) trivial (if_neg c)
theorem c_mix {ds : List Int} {k many : Int} (hm : 0 < many) (h : Ev te ρ (bL (ds.map .int))) (h1 : Ev ta ρ (pu (dI k))) (h2 : Ev tb ρ (pu (dI many))) : Ev (tCall (sp_law_mix T) [] E (tCons te (tCons ta (tCons tb tNil)))) ρ (pu (dI (mix ds k many))) := ev_call (ds, k, many) (ea_cons h (ea_cons h1 (ea_cons h2 ea_nil))) hm rfl
theorem fld_size {n : Int} {es : List E3} (T : Tx K mg) (h : Ev te ρ (pu (netR T n es))) : Ev (tFld K te "_size") ρ (pu (dI n)) := ev_fld h (by rfl) T.cl_Network T.na_Network__size
theorem fld_edges {n : Int} {es : List E3} (T : Tx K mg) (h : Ev te ρ (pu (netR T n es))) : Ev (tFld K te "_edges") ρ (pu (dat (eEs es))) := ev_fld h (by rfl) T.cl_Network T.na_Network__edges
end
end Q

set_option Elab.async false
set_option linter.all false
set_option maxRecDepth 100000
set_option maxHeartbeats 4000000
namespace Q
open PySem PySem.Spec PyProof.Rows L2 Z
local macro_rules | `(tactic| walk_at "zo") => `(tactic| first
  | with_reducible exact o_int0 | with_reducible exact o_bool0 | exact o_eqI | exact o_neI
  | exact o_intC (by assumption) | exact o_intC (by show (0 : Int) < _; omega) | exact o_intC ⟨by omega, by omega⟩ | exact o_intC (Or.inr ⟨by omega, by omega⟩) | exact o_intC (Or.inl ⟨by omega, by omega⟩) | exact o_intC ⟨by decide, by decide, by decide⟩
  | exact o_ixL (by assumption) | exact Op2.l (o_ixL (by assumption)) | exact o_ixT rfl | exact o_inT2 | exact o_inT | exact o_inL | exact Op2.r o_inL | exact o_notInL | exact Op2.r o_notInL | exact o_isN | exact o_notN)
local macro_rules | `(tactic| walk_at "zc") => `(tactic| first
  | exact cl_len | exact cl_lenP | exact cl_int | exact cl_abs | exact cl_min2 | exact cl_max2 | exact cl_intB | exact cl_sum | exact cl_any | exact cl_all)
local macro_rules | `(tactic| walk_at "za") => `(tactic| first
  | with_reducible exact ea_nil | with_reducible exact ed_nil
  | ((with_reducible refine' ed_cons ?z1 ?z2); (case z1 => walk_at "ze"); (case z2 => walk_at "za"))
  | ((with_reducible refine' ea_cons ?z1 ?z2); (case z1 => walk_at "ze"); (case z2 => walk_at "za")))
local macro_rules | `(tactic| walk_at "ze") => `(tactic| first
  | with_reducible assumption
  | with_reducible exact ev_int | with_reducible exact ev_bl | with_reducible exact ev_non | with_reducible exact ev_str
  | ((with_reducible refine' ev_b ?z1); (case z1 => rfl)) | ((with_reducible refine' ev_var ?z1); (case z1 => rfl)) | ((with_reducible refine' ev_o ?z1); (case z1 => rfl))
  | ((with_reducible refine' ev_op ?z1 ?z2 ?z3); (case z1 => walk_at "ze"); (case z2 => walk_at "ze"); (case z3 => walk_at "zo"))
  | ((with_reducible refine' ev_chain ?z1 ?z2 ?z3 ?z4 ?z5); (case z1 => walk_at "ze"); (case z2 => walk_at "ze"); (case z4 => walk_at "zo"); (case z3 => intro _; walk_at "ze"); (case z5 => intro _; walk_at "zo"))
  | ((with_reducible refine' ev_andV ?z1 ?z2); (case z1 => walk_at "ze"); (case z2 => intro _; walk_at "ze"))
  | ((with_reducible refine' ev_orV ?z1 ?z2); (case z1 => walk_at "ze"); (case z2 => intro _; walk_at "ze"))
  | ((with_reducible refine' ev_notV ?z1); (case z1 => walk_at "ze"))
  | ((with_reducible refine' ev_neg ?z1); (case z1 => walk_at "ze"))
  | ((with_reducible refine' ev_tupD ?z1 ?z2); (case z1 => walk_at "za"); (case z2 => exact Nat.le_of_ble_eq_true rfl))
  | ((with_reducible refine' ev_cb ?z1 ?z2); (case z1 => walk_at "za"); (case z2 => walk_at "zc"))
  | ((with_reducible refine' EvN.ev ?z1); (case z1 => walk_at "zn"))
  | walk_at "zf")
local macro_rules | `(tactic| walk_at "zb") => `(tactic| first
  | with_reducible assumption
  | ((with_reducible refine' ev_b ?z1); (case z1 => rfl)) | ((with_reducible refine' ev_o ?z1); (case z1 => rfl))
  | ((with_reducible refine' Ev.bl ?z1); (case z1 => walk_at "ze")))
local macro_rules | `(tactic| walk_at "zn") => `(tactic| first
  | with_reducible assumption
  | ((with_reducible refine' en_lstD ?z1 ?z2); (case z1 => walk_at "za"); (case z2 => exact Nat.le_of_ble_eq_true rfl))
  | ((with_reducible refine' en_cb ?z1 ?z2); (case z1 => walk_at "za"); (case z2 => first | exact cl_list | exact cl_listP)))
local macro_rules | `(tactic| walk_at "zt") => `(tactic| first
  | with_reducible assumption
  | ((with_reducible refine' et_test ?z1); (case z1 => walk_at "ze"))
  | ((with_reducible refine' et_B ?z1); (case z1 => walk_at "ze"))
  | ((with_reducible refine' et_and ?z1 ?z2); (case z1 => walk_at "zt"); (case z2 => intro _; walk_at "zt"))
  | ((with_reducible refine' et_or ?z1 ?z2); (case z1 => walk_at "zt"); (case z2 => intro _; walk_at "zt"))
  | ((with_reducible refine' et_not ?z1); (case z1 => walk_at "zt")))
local macro_rules | `(tactic| walk_at "zf") => `(tactic| first
  | ((with_reducible refine' c_is_size ?z1); (case z1 => walk_at "ze"))
  | ((with_reducible refine' c_is_price ?z1); (case z1 => walk_at "ze"))
  | ((with_reducible refine' c_are_ends ?z1 ?z2 ?z3); (case z1 => walk_at "ze"); (case z2 => walk_at "ze"); (case z3 => walk_at "ze"))
  | ((with_reducible refine' c_mix ?z0 ?z1 ?z2 ?z3); (case z1 => walk_at "zb"); (case z2 => walk_at "ze"); (case z3 => walk_at "ze"); (case z0 => first | assumption | omega | decide))
  | ((with_reducible refine' fld_size (by assumption) ?z1); (case z1 => walk_at "ze"))
  | ((with_reducible refine' fld_edges (by assumption) ?z1); (case z1 => walk_at "ze")))
section
variable {P : Program} {w : World} {K : PySem.W.Frag} {mg : Str → Option Value} {base : Heap}
theorem ok_WebError___init__ (T : Tx K mg) : FnOk P w K mg base (L2.CX P w) 1 T.f_WebError___init__ T.fd_WebError___init__ ["self", "at"] (spAt K) := by
  refine T.F_WebError___init__.okX sc_WebError___init__ (fun vs H Q E ⟨a, C, n, e, _⟩ => by rw [e]; rfl) (fun cdv A outer s H vs Q E hr h => ⟨_, (pss_one (ps_ost (pv 0) (pv 1))), pure_at vs H Q E h⟩)
theorem ok_need_vertex (T : Tx K mg) : FnOk P w K mg base (L2.CX P w) 3 T.f_need_vertex T.fd_need_vertex ["size", "vertex"] (sp_need_vertex T) := by
  refine T.F_need_vertex.okX sc_need_vertex (SpA.len fun _ => rfl) (fun cdv A outer s H vs Q E hr h => ⟨_, (pss_one (ps_if (pt_not (pt_chain op_le op_lt pe_int (pv 1) (pv 0)))
        (pss_one (ps_raise rfl (takes_of rfl rfl rfl rfl) (pmk_oex T.x_BadVertex.1 T.x_BadVertex.2.2.1 T.x_BadVertex.2.2.2.1 (ok_WebError___init__ T) (hr.mono (by decide)) T.b_WebError___init__ .nil pass_no (by rfl) T.x_BadVertex.2.2.2.2 (pa_cons (pv 1) pa_nil))))
        pss_nil)), ?_⟩)
  refine SpA.goN h N_need_vertex 2 (fun _ => rfl) ?_
  rintro ⟨n, v⟩ -
  by_cases c : isVert n v = true
  · left
    refine ⟨[.b (pu (dI n)), .b (pu (dI v))], if_pos c, Ex.ife (b := !(isVert n v)) (EvT.is (by walk_at "zt") (by rfl)) (fun z => ?_) (fun z => Ex.next)⟩
    rw [c] at z; cases z
  · right
    refine ⟨_, [.b (pu (dI n)), .b (pu (dI v))], if_neg c, ?_⟩
    refine Ex.ife (b := !(isVert n v)) (EvT.is (by walk_at "zt") (by rfl)) (fun z => ?_) (fun z => ?_)
    · exact Ex.raise_ (by walk_at "za") T.x_BadVertex.1 T.x_BadVertex.2.1
    · exact absurd (by simpa using z) c

theorem ok_is_size (T : Tx K mg) : FnOk P w K mg base (L2.CX P w) 1 T.f_is_size T.fd_is_size ["size"] (sp_is_size T) := by
  refine T.F_is_size.okX sc_is_size (SpA.len fun _ => rfl) (fun cdv A outer s H vs Q E hr h => ⟨_, (pss_one (ps_ret (pe_chain op_le op_le pe_int (pv 0) (pe_glob (v := .int 40) (by rfl) T.k_MOST_VERTICES ⟨_, rfl⟩)))), ?_⟩)
  refine SpA.go h N_is_size 1 (fun _ => rfl) ?_
  rintro n -
  exact ⟨_, [], rfl, Ex.is (Ex.ret (by walk_at "ze")) (by rfl)⟩

theorem ok_is_price (T : Tx K mg) : FnOk P w K mg base (L2.CX P w) 1 T.f_is_price T.fd_is_price ["price"] (sp_is_price T) := by
  refine T.F_is_price.okX sc_is_price (SpA.len fun _ => rfl) (fun cdv A outer s H vs Q E hr h => ⟨_, (pss_one (ps_ret (pe_chain op_le op_le pe_int (pv 0) (pe_glob (v := .int 1048576) (by rfl) T.k_MOST_PRICE ⟨_, rfl⟩)))), ?_⟩)
  refine SpA.go h N_is_price 1 (fun _ => rfl) ?_
  rintro n -
  exact ⟨_, [], rfl, Ex.is (Ex.ret (by walk_at "ze")) (by rfl)⟩

theorem ok_are_ends (T : Tx K mg) : FnOk P w K mg base (L2.CX P w) 1 T.f_are_ends T.fd_are_ends ["size", "u", "v"] (sp_are_ends T) := by
  refine T.F_are_ends.okX sc_are_ends (SpA.len fun _ => rfl) (fun cdv A outer s H vs Q E hr h => ⟨_, (pss_one (ps_ret (pe_and (pe_chain op_le op_lt pe_int (pv 1) (pv 0)) (pe_and (pe_chain op_le op_lt pe_int (pv 2) (pv 0)) (pe_one (pe_cmpR op_ne (pv 1) (pv 2) (nomark _))))))), ?_⟩)
  refine SpA.go h N_are_ends 3 (fun _ => rfl) ?_
  rintro ⟨n, u, v⟩ -
  exact ⟨_, [], rfl, Ex.is (Ex.ret (by walk_at "ze")) (by rfl)⟩

theorem ok_law_mix (T : Tx K mg) : FnOk P w K mg base (L2.CX P w) 1 T.f_law_mix T.fd_law_mix ["draws", "k", "many"] (sp_law_mix T) := by
  refine T.F_law_mix.okX sc_law_mix (SpA.len fun _ => rfl) (fun cdv A outer s H vs Q E hr h => ⟨_, (pss_cons (ps_set (i := 3) sc_law_mix.nd rfl (by first | exact Or.inl rfl | exact Or.inr rfl) pe_int)
      (pss_cons (ps_if (pt_cmpR op_gt (pe_callB (kcall_len K) (by rfl) T.z_len PySem.boot_len (pa_cons (pv 0) pa_nil)) pe_int (nomark _))
        (pss_one (ps_set (i := 3) sc_law_mix.nd rfl (by first | exact Or.inl rfl | exact Or.inr rfl) (pe_ix (kix_list K) (pv 0) (pe_op op_mod (pe_callTy call_int1 (by rfl) T.z_int (by decide +kernel) (pa_cons (pv 1) pa_nil)) (pe_callB (kcall_len K) (by rfl) T.z_len PySem.boot_len (pa_cons (pv 0) pa_nil))) (fun _ _ => rfl))))
        pss_nil)
      (pss_cons (ps_if (pt_cmpR op_lt (pv 1) (pe_callB (kcall_len K) (by rfl) T.z_len PySem.boot_len (pa_cons (pv 0) pa_nil)) (nomark _))
        (pss_one (ps_ret (pe_op op_mod (pe_callTy call_int1 (by rfl) T.z_int (by decide +kernel) (pa_cons (pv 3) pa_nil)) (pv 2))))
        pss_nil)
      (pss_one (ps_ret (pe_op op_mod (pe_callTy call_int1 (by rfl) T.z_int (by decide +kernel) (pa_cons (pe_op op_fdiv (pe_callTy call_int1 (by rfl) T.z_int (by decide +kernel) (pa_cons (pe_op op_add (pe_op op_mul (pv 3) pe_int) (pe_op op_mul (pv 1) pe_int)) pa_nil)) pe_int) pa_nil)) (pv 2))))))), ?_⟩)
  refine SpA.go h N_law_mix 3 (fun _ => rfl) ?_
  rintro ⟨ds, k, many⟩ hm
  have hm : 0 < many := hm
  refine ⟨_, [], rfl, ?_⟩
  show Ex _ _ [.b (bL (ds.map .int)), .b (pu (dI k)), .b (pu (dI many)), .x] _
  refine Ex.seq (Ex.set (i := 3) ev_int) ?_
  refine Ex.seq (ρ1 := [.b (bL (ds.map .int)), .b (pu (dI k)), .b (pu (dI many)), .p (dI (mixV ds k))]) (Ex.ife (b := decide ((0 : Int) < (ds.map PyData.int).length)) (by walk_at "zt") (fun c => ?_) (fun c => ?_)) ?_
  · have c : (0 : Int) < ds.length := by simpa using c
    have l : 0 < (((ds.map PyData.int).length : Nat) : Int) := by rw [List.length_map]; exact c
    have e : atI (ds.map PyData.int) (k % (ds.map PyData.int).length) = some (.int (mixV ds k)) := by
      rw [atI_ints (Int.emod_nonneg _ (by omega)) (by rw [← List.length_map (f := PyData.int)]; exact Int.emod_lt_of_pos _ l), List.length_map]
      unfold mixV
      rw [if_pos c]
    exact Ex.is (Ex.set (i := 3) (by walk_at "ze")) rfl
  · have c : ¬ (0 : Int) < ds.length := by simpa using c
    have e : mixV ds k = 0 := if_neg c
    rw [e]
    exact Ex.next
  refine Ex.ite (b := decide (k < (ds.map PyData.int).length)) (by walk_at "zt") (fun c => ?_) (fun c => ?_)
  · have c : k < ds.length := by simpa using c
    refine Ex.seqE (Ex.is (Ex.ret (by walk_at "ze")) ?_) rfl
    show Out.rt _ = Out.rt _
    rw [show mix ds k many = mixV ds k % many from if_pos c]
  · have c : ¬ k < ds.length := by simpa using c
    refine Ex.skip (Ex.is (Ex.ret (by walk_at "ze")) ?_)
    show Out.rt _ = Out.rt _
    rw [show mix ds k many = ((mixV ds k * 7919 + k * 104729) / 3) % many from if_neg c]

end
end Q

set_option Elab.async false
set_option linter.all false
set_option maxRecDepth 100000
set_option maxHeartbeats 4000000
namespace Q
open PySem PySem.Spec PyProof.Rows L2 Z
local macro_rules | `(tactic| walk_at "zo") => `(tactic| first
  | with_reducible exact o_int0 | with_reducible exact o_bool0 | exact o_eqI | exact o_neI
  | exact o_intC (by assumption) | exact o_intC (by show (0 : Int) < _; omega) | exact o_intC ⟨by omega, by omega⟩ | exact o_intC (Or.inr ⟨by omega, by omega⟩) | exact o_intC (Or.inl ⟨by omega, by omega⟩) | exact o_intC ⟨by decide, by decide, by decide⟩
  | exact o_ixL (by assumption) | exact Op2.l (o_ixL (by assumption)) | exact o_ixT rfl | exact o_inT2 | exact o_inT | exact o_inL | exact Op2.r o_inL | exact o_notInL | exact Op2.r o_notInL | exact o_isN | exact o_notN)
local macro_rules | `(tactic| walk_at "zc") => `(tactic| first
  | exact cl_len | exact cl_lenP | exact cl_int | exact cl_abs | exact cl_min2 | exact cl_max2 | exact cl_intB | exact cl_sum | exact cl_any | exact cl_all)
local macro_rules | `(tactic| walk_at "za") => `(tactic| first
  | with_reducible exact ea_nil | with_reducible exact ed_nil
  | ((with_reducible refine' ed_cons ?z1 ?z2); (case z1 => walk_at "ze"); (case z2 => walk_at "za"))
  | ((with_reducible refine' ea_cons ?z1 ?z2); (case z1 => walk_at "ze"); (case z2 => walk_at "za")))
local macro_rules | `(tactic| walk_at "ze") => `(tactic| first
  | with_reducible assumption
  | with_reducible exact ev_int | with_reducible exact ev_bl | with_reducible exact ev_non | with_reducible exact ev_str
  | ((with_reducible refine' ev_b ?z1); (case z1 => rfl)) | ((with_reducible refine' ev_var ?z1); (case z1 => rfl)) | ((with_reducible refine' ev_o ?z1); (case z1 => rfl))
  | ((with_reducible refine' ev_op ?z1 ?z2 ?z3); (case z1 => walk_at "ze"); (case z2 => walk_at "ze"); (case z3 => walk_at "zo"))
  | ((with_reducible refine' ev_chain ?z1 ?z2 ?z3 ?z4 ?z5); (case z1 => walk_at "ze"); (case z2 => walk_at "ze"); (case z4 => walk_at "zo"); (case z3 => intro _; walk_at "ze"); (case z5 => intro _; walk_at "zo"))
  | ((with_reducible refine' ev_andV ?z1 ?z2); (case z1 => walk_at "ze"); (case z2 => intro _; walk_at "ze"))
  | ((with_reducible refine' ev_orV ?z1 ?z2); (case z1 => walk_at "ze"); (case z2 => intro _; walk_at "ze"))
  | ((with_reducible refine' ev_notV ?z1); (case z1 => walk_at "ze"))
  | ((with_reducible refine' ev_neg ?z1); (case z1 => walk_at "ze"))
  | ((with_reducible refine' ev_tupD ?z1 ?z2); (case z1 => walk_at "za"); (case z2 => exact Nat.le_of_ble_eq_true rfl))
  | ((with_reducible refine' ev_cb ?z1 ?z2); (case z1 => walk_at "za"); (case z2 => walk_at "zc"))
  | ((with_reducible refine' EvN.ev ?z1); (case z1 => walk_at "zn"))
  | walk_at "zf")
local macro_rules | `(tactic| walk_at "zb") => `(tactic| first
  | with_reducible assumption
  | ((with_reducible refine' ev_b ?z1); (case z1 => rfl)) | ((with_reducible refine' ev_o ?z1); (case z1 => rfl))
  | ((with_reducible refine' Ev.bl ?z1); (case z1 => walk_at "ze")))
local macro_rules | `(tactic| walk_at "zn") => `(tactic| first
  | with_reducible assumption
  | ((with_reducible refine' en_lstD ?z1 ?z2); (case z1 => walk_at "za"); (case z2 => exact Nat.le_of_ble_eq_true rfl))
  | ((with_reducible refine' en_cb ?z1 ?z2); (case z1 => walk_at "za"); (case z2 => first | exact cl_list | exact cl_listP)))
local macro_rules | `(tactic| walk_at "zt") => `(tactic| first
  | with_reducible assumption
  | ((with_reducible refine' et_test ?z1); (case z1 => walk_at "ze"))
  | ((with_reducible refine' et_B ?z1); (case z1 => walk_at "ze"))
  | ((with_reducible refine' et_and ?z1 ?z2); (case z1 => walk_at "zt"); (case z2 => intro _; walk_at "zt"))
  | ((with_reducible refine' et_or ?z1 ?z2); (case z1 => walk_at "zt"); (case z2 => intro _; walk_at "zt"))
  | ((with_reducible refine' et_not ?z1); (case z1 => walk_at "zt")))
local macro_rules | `(tactic| walk_at "zf") => `(tactic| first
  | ((with_reducible refine' c_is_size ?z1); (case z1 => walk_at "ze"))
  | ((with_reducible refine' c_is_price ?z1); (case z1 => walk_at "ze"))
  | ((with_reducible refine' c_are_ends ?z1 ?z2 ?z3); (case z1 => walk_at "ze"); (case z2 => walk_at "ze"); (case z3 => walk_at "ze"))
  | ((with_reducible refine' c_mix ?z0 ?z1 ?z2 ?z3); (case z1 => walk_at "zb"); (case z2 => walk_at "ze"); (case z3 => walk_at "ze"); (case z0 => first | assumption | omega | decide))
  | ((with_reducible refine' fld_size (by assumption) ?z1); (case z1 => walk_at "ze"))
  | ((with_reducible refine' fld_edges (by assumption) ?z1); (case z1 => walk_at "ze")))
section
variable {P : Program} {w : World} {K : PySem.W.Frag} {mg : Str → Option Value} {base : Heap}
theorem ok_Network___init__ (T : Tx K mg) : FnOk P w K mg base (L2.CX P w) 3 T.f_Network___init__ T.fd_Network___init__ ["self", "size", "edges"] (sp_Network___init__ T) := by
  refine T.F_Network___init__.okX sc_Network___init__ (SpI.len fun _ => rfl) (fun cdv A outer s H vs Q E hr h => ⟨_, (pss_cons (ps_if (pt_not (pt_val (pe_call (ok_is_size T) (hr.mono (by decide)) (by rfl) T.g_is_size T.F_is_size.kp T.b_is_size .nil (passes_call (takes_of rfl rfl rfl rfl) fun _ _ _ _ z => z) (pa_cons (pv 1) pa_nil))))
        (pss_one (ps_raise rfl (takes_of rfl rfl rfl rfl) (pmk_oex T.x_OutOfRange.1 T.x_OutOfRange.2.2.1 T.x_OutOfRange.2.2.2.1 (ok_WebError___init__ T) (hr.mono (by decide)) T.b_WebError___init__ .nil pass_no (by rfl) T.x_OutOfRange.2.2.2.2 (pa_cons (pv 1) pa_nil))))
        pss_nil)
      (pss_cons (ps_if (pt_cmpR op_gt (pe_callB (kcall_len K) (by rfl) T.z_len PySem.boot_len (pa_cons (pv 2) pa_nil)) (pe_glob (v := .int 200) (by rfl) T.k_MOST_EDGES ⟨_, rfl⟩) (nomark _))
        (pss_one (ps_raise rfl (takes_of rfl rfl rfl rfl) (pmk_oex T.x_TooMany.1 T.x_TooMany.2.2.1 T.x_TooMany.2.2.2.1 (ok_WebError___init__ T) (hr.mono (by decide)) T.b_WebError___init__ .nil pass_no (by rfl) T.x_TooMany.2.2.2.2 (pa_cons (pe_callB (kcall_len K) (by rfl) T.z_len PySem.boot_len (pa_cons (pv 2) pa_nil)) pa_nil))))
        pss_nil)
      (pss_cons (ps_for (passes_of rfl) rfl (kpi_enum K (by rfl) T.z_enumerate (pa_cons (pv 2) pa_nil)) (kpg_tup K (n := 2) rfl (pgs_cons (pg_name (i := 3) sc_Network___init__.nd rfl (by first | exact Or.inl rfl | exact Or.inr rfl)) (pgs_cons (kpg_tup K (n := 3) rfl (pgs_cons (pg_name (i := 4) sc_Network___init__.nd rfl (by first | exact Or.inl rfl | exact Or.inr rfl)) (pgs_cons (pg_name (i := 5) sc_Network___init__.nd rfl (by first | exact Or.inl rfl | exact Or.inr rfl)) (pgs_cons (pg_name (i := 6) sc_Network___init__.nd rfl (by first | exact Or.inl rfl | exact Or.inr rfl)) pgs_nil)))) pgs_nil)))
        (pss_cons (ps_if (pt_not (pt_val (pe_call (ok_are_ends T) (hr.mono (by decide)) (by rfl) T.g_are_ends T.F_are_ends.kp T.b_are_ends .nil (passes_call (takes_of rfl rfl rfl rfl) fun _ _ _ _ z => z) (pa_cons (pv 1) (pa_cons (pv 4) (pa_cons (pv 5) pa_nil))))))
        (pss_one (ps_raise rfl (takes_of rfl rfl rfl rfl) (pmk_oex T.x_BadVertex.1 T.x_BadVertex.2.2.1 T.x_BadVertex.2.2.2.1 (ok_WebError___init__ T) (hr.mono (by decide)) T.b_WebError___init__ .nil pass_no (by rfl) T.x_BadVertex.2.2.2.2 (pa_cons (pv 3) pa_nil))))
        pss_nil)
      (pss_one (ps_if (pt_not (pt_val (pe_call (ok_is_price T) (hr.mono (by decide)) (by rfl) T.g_is_price T.F_is_price.kp T.b_is_price .nil (passes_call (takes_of rfl rfl rfl rfl) fun _ _ _ _ z => z) (pa_cons (pv 6) pa_nil))))
        (pss_one (ps_raise rfl (takes_of rfl rfl rfl rfl) (pmk_oex T.x_BadPrice.1 T.x_BadPrice.2.2.1 T.x_BadPrice.2.2.2.1 (ok_WebError___init__ T) (hr.mono (by decide)) T.b_WebError___init__ .nil pass_no (by rfl) T.x_BadPrice.2.2.2.2 (pa_cons (pv 3) pa_nil))))
        pss_nil))))
      (pss_cons (kps_fld K (pv 0) (pv 1) rfl)
      (pss_one (kps_fld K (pv 0) (pe_lc (own := [("u", 4), ("v", 5), ("price", 6)]) (g := (gTup K 3 (gCons (gName 4) (gCons (gName 5) (gCons (gName 6) gNil))))) rfl sc_Network___init__.nd (kpi_list K (pv 2)) (blkOk_by (N := N_Network___init__) (sc := defScope s_Network___init__) (by decide +kernel)) (fun _ _ _ _ _ => (kpg_tup K (n := 3) rfl (pgs_cons (pg_name (i := 4) sc_Network___init__.nd rfl (by first | exact Or.inl rfl | exact Or.inr rfl)) (pgs_cons (pg_name (i := 5) sc_Network___init__.nd rfl (by first | exact Or.inl rfl | exact Or.inr rfl)) (pgs_cons (pg_name (i := 6) sc_Network___init__.nd rfl (by first | exact Or.inl rfl | exact Or.inr rfl)) pgs_nil))))) (fun _ _ _ _ _ => pts_nil) (fun _ _ _ _ _ => (pe_tup (pa_cons (pv 4) (pa_cons (pv 5) (pa_cons (pv 6) pa_nil)))))) rfl)))))), ?_⟩)
  refine SpI.run (N := N_Network___init__) (m := 2) h (fun _ => rfl) ?_
  rintro ⟨n, es⟩ a -
  let ρ0 : List Sl := [.o (oI T.c_Network a []), .b (pu (dI n)), .b (bL (es.map eE)), .x, .x, .x, .x]
  by_cases c1 : isSize n = true
  case neg =>
    refine .inr ⟨_, _, ρ0, netI_err T (show netErr n es = some (.oor, n) from if_neg c1), ?_⟩
    refine Ex.ite (b := !(isSize n)) (EvT.is (by walk_at "zt") (by rfl)) (fun z => ?_) (fun z => ?_)
    · exact Ex.seqE (Ex.raise_ (by walk_at "za") T.x_OutOfRange.1 T.x_OutOfRange.2.1) rfl
    · exact absurd (by simpa using z) c1
  case pos =>
    have e0 : netErr n es = if 200 < (es.length : Int) then some (.tm, (es.length : Int)) else firstBad n es.zipIdx := if_pos c1
    have hl : (((es.map eE).length : Nat) : Int) = (es.length : Int) := by rw [List.length_map]
    by_cases c2 : 200 < (es.length : Int)
    case pos =>
      refine .inr ⟨_, _, ρ0, netI_err T (e0.trans (if_pos c2)), ?_⟩
      refine Ex.ite (b := !(isSize n)) (EvT.is (by walk_at "zt") (by rfl)) (fun z => by rw [c1] at z; cases z) (fun _ => Ex.skip ?_)
      refine Ex.ite (b := decide ((200 : Int) < (es.map eE).length)) (by walk_at "zt") (fun z => ?_) (fun z => ?_)
      · rw [← hl]
        exact Ex.seqE (Ex.raise_ (by walk_at "za") T.x_TooMany.1 T.x_TooMany.2.1) rfl
      · exact absurd c2 (by rw [← hl]; exact of_decide_eq_false z)
    case neg =>
      -- the loop over the edges
      have loop := Ex.forF (K := K) (W := WofE E) (S := Unit) (ρ := ρ0) (wi := iEnum K (tCons (tVar 2) tNil)) (xs := es.zipIdx) (en := fun p : E3 × Nat => .tuple [.int (p.2 : Int), eE p.1]) (T := []) (s0 := ()) (g := gTup K 2 (gCons (gName 3) (gCons (gTup K 3 (gCons (gName 4) (gCons (gName 5) (gCons (gName 6) gNil)))) gNil)))
        (tb := tSeq (tIfS (tNot (tB (tCall (sp_are_ends T) [] E (tCons (tVar 1) (tCons (tVar 4) (tCons (tVar 5) tNil)))))) (fun _ σ H => tMkO T.c_BadVertex (spAt K) [] (tCons (tVar 3) tNil) σ H fun cls d H' => E cls d H') tNext)
          (tIfS (tNot (tB (tCall (sp_is_price T) [] E (tCons (tVar 6) tNil)))) (fun _ σ H => tMkO T.c_BadPrice (spAt K) [] (tCons (tVar 3) tNil) σ H fun cls d H' => E cls d H') tNext))
        (fun _ => ρ0)
        (fun _ p => match badEdge n p.1 with | some k => .inr (.xc [.o (oI T.c_Network a []), .b (pu (dI n)), .b (bL (es.map eE)), .p (dI (p.2 : Int)), .p (dI p.1.1), .p (dI p.1.2.1), .p (dI p.1.2.2)] (T.cls k) (p.2 : Int)) | none => .inl ())
        (ei_enumT (es_b rfl)) (Wk.refl _) (fun pre p post s e r => ⟨fun o ho => (by
            split at ho
            · cases ho; rfl
            · cases ho), [3, 4, 5, 6], [.o (oI T.c_Network a []), .b (pu (dI n)), .b (bL (es.map eE)), .p (dI (p.2 : Int)), .p (dI p.1.1), .p (dI p.1.2.1), .p (dI p.1.2.2)],
          eg_tup (egs_cons eg_name (egs_cons (eg_tup (egs_cons eg_name (egs_cons eg_name (egs_cons eg_name egs_nil))) rfl) egs_nil)) rfl, by
            rcases badEdge_cases n p.1 with ⟨h1, h2⟩ | ⟨h1, h2, h3⟩ | ⟨h1, h2, h3⟩
            · rw [h2]
              refine Ex.ite (b := !(isEnds n p.1.1 p.1.2.1)) (EvT.is (by walk_at "zt") (by rfl)) (fun z => ?_) (fun z => by rw [h1] at z; cases z)
              exact Ex.seqE (Ex.raise_ (by walk_at "za") T.x_BadVertex.1 T.x_BadVertex.2.1) rfl
            · rw [h3]
              refine Ex.ite (b := !(isEnds n p.1.1 p.1.2.1)) (EvT.is (by walk_at "zt") (by rfl)) (fun z => by rw [h1] at z; cases z) (fun _ => Ex.skip ?_)
              refine Ex.ife (b := !(isPrice p.1.2.2)) (EvT.is (by walk_at "zt") (by rfl)) (fun z => ?_) (fun z => by rw [h2] at z; cases z)
              exact Ex.raise_ (by walk_at "za") T.x_BadPrice.1 T.x_BadPrice.2.1
            · rw [h3]
              refine Ex.ite (b := !(isEnds n p.1.1 p.1.2.1)) (EvT.is (by walk_at "zt") (by rfl)) (fun z => by rw [h1] at z; cases z) (fun _ => Ex.skip ?_)
              refine Ex.ife (b := !(isPrice p.1.2.2)) (EvT.is (by walk_at "zt") (by rfl)) (fun z => by rw [h2] at z; cases z) (fun _ => ?_)
              exact Ex.go (Ex.out (.k (.k (.k (.x (.x (.x (.x .nil))))))) Ex.next)⟩)
      have run : ∀ ps : List (E3 × Nat), runF (fun (_ : Unit) (p : E3 × Nat) => (match badEdge n p.1 with | some k => .inr (.xc [.o (oI T.c_Network a []), .b (pu (dI n)), .b (bL (es.map eE)), .p (dI (p.2 : Int)), .p (dI p.1.1), .p (dI p.1.2.1), .p (dI p.1.2.2)] (T.cls k) (p.2 : Int)) | none => .inl () : Sum Unit Out)) () ps = .inl () ∧ firstBad n ps = none ∨
          ∃ k m ρ, runF (fun (_ : Unit) (p : E3 × Nat) => (match badEdge n p.1 with | some k => .inr (.xc [.o (oI T.c_Network a []), .b (pu (dI n)), .b (bL (es.map eE)), .p (dI (p.2 : Int)), .p (dI p.1.1), .p (dI p.1.2.1), .p (dI p.1.2.2)] (T.cls k) (p.2 : Int)) | none => .inl () : Sum Unit Out)) () ps = .inr (.xc ρ (T.cls k) m) ∧ firstBad n ps = some (k, m) := by
        intro ps
        induction ps with
        | nil => exact .inl ⟨rfl, rfl⟩
        | cons p ps ih =>
          cases hb : badEdge n p.1 with
          | some k =>
            refine .inr ⟨k, (p.2 : Int), [.o (oI T.c_Network a []), .b (pu (dI n)), .b (bL (es.map eE)), .p (dI (p.2 : Int)), .p (dI p.1.1), .p (dI p.1.2.1), .p (dI p.1.2.2)], ?_, ?_⟩
            · unfold runF; simp only [hb]
            · unfold firstBad; simp only [hb]
          | none =>
            have e1 : firstBad n (p :: ps) = firstBad n ps := by conv => lhs; unfold firstBad; simp only [hb]
            rw [e1]
            unfold runF
            simp only [hb]
            exact ih
      rcases run es.zipIdx with ⟨r1, r2⟩ | ⟨k, m, ρ, r1, r2⟩
      · rw [r1] at loop
        refine .inl ⟨_, [.o (oI T.c_Network a (netF n es)), .b (pu (dI n)), .b (bL (es.map eE)), .x, .x, .x, .x], netI_ok T (e0.trans ((if_neg c2).trans r2)), rfl, ?_⟩
        refine Ex.ite (b := !(isSize n)) (EvT.is (by walk_at "zt") (by rfl)) (fun z => by rw [c1] at z; cases z) (fun _ => Ex.skip ?_)
        refine Ex.ite (b := decide ((200 : Int) < (es.map eE).length)) (by walk_at "zt") (fun z => absurd (by rw [← hl]; exact of_decide_eq_true z) c2) (fun _ => Ex.skip ?_)
        refine Ex.seq loop ?_
        refine Ex.seq (Ex.setfld (C := T.c_Network) (a := a) (fs := []) rfl (by walk_at "ze") rfl (by decide) T.cl_Network T.na_Network__size) ?_
        refine Ex.is (Ex.setfld (C := T.c_Network) (a := a) (fs := [("_size", dI n)]) rfl (EvN.ev (en_lc0 (xs := es) (en := eE) (f := eE) (ei_listT (es_b rfl)) ⟨rfl, rfl, rfl, trivial⟩ (by omega) fun e he => ⟨[4, 5, 6], _, eg_tup (egs_cons eg_name (egs_cons eg_name (egs_cons eg_name egs_nil))) rfl, fun i hi => hi, .k (.k (.k (.k (.x (.x (.x .nil)))))), Ev.is (by walk_at "ze") (by rfl)⟩)) (by rfl) (by show 1 < 1000; decide) T.cl_Network T.na_Network__edges) (by rfl)
      · rw [r1] at loop
        refine .inr ⟨_, _, ρ, netI_err T (e0.trans ((if_neg c2).trans r2)), ?_⟩
        refine Ex.ite (b := !(isSize n)) (EvT.is (by walk_at "zt") (by rfl)) (fun z => by rw [c1] at z; cases z) (fun _ => Ex.skip ?_)
        refine Ex.ite (b := decide ((200 : Int) < (es.map eE).length)) (by walk_at "zt") (fun z => absurd (by rw [← hl]; exact of_decide_eq_true z) c2) (fun _ => Ex.skip ?_)
        exact Ex.seqE loop rfl

end
end Q

set_option Elab.async false
set_option linter.all false
set_option maxRecDepth 100000
set_option maxHeartbeats 4000000
namespace Q
open PySem PySem.Spec PyProof.Rows L2 Z
local macro_rules | `(tactic| walk_at "zo") => `(tactic| first
  | with_reducible exact o_int0 | with_reducible exact o_bool0 | exact o_eqI | exact o_neI
  | exact o_intC (by assumption) | exact o_intC (by show (0 : Int) < _; omega) | exact o_intC ⟨by omega, by omega⟩ | exact o_intC (Or.inr ⟨by omega, by omega⟩) | exact o_intC (Or.inl ⟨by omega, by omega⟩) | exact o_intC ⟨by decide, by decide, by decide⟩
  | exact o_ixL (by assumption) | exact Op2.l (o_ixL (by assumption)) | exact o_ixT rfl | exact o_inT2 | exact o_inT | exact o_inL | exact Op2.r o_inL | exact o_notInL | exact Op2.r o_notInL | exact o_isN | exact o_notN)
local macro_rules | `(tactic| walk_at "zc") => `(tactic| first
  | exact cl_len | exact cl_lenP | exact cl_int | exact cl_abs | exact cl_min2 | exact cl_max2 | exact cl_intB | exact cl_sum | exact cl_any | exact cl_all)
local macro_rules | `(tactic| walk_at "za") => `(tactic| first
  | with_reducible exact ea_nil | with_reducible exact ed_nil
  | ((with_reducible refine' ed_cons ?z1 ?z2); (case z1 => walk_at "ze"); (case z2 => walk_at "za"))
  | ((with_reducible refine' ea_cons ?z1 ?z2); (case z1 => walk_at "ze"); (case z2 => walk_at "za")))
local macro_rules | `(tactic| walk_at "ze") => `(tactic| first
  | with_reducible assumption
  | with_reducible exact ev_int | with_reducible exact ev_bl | with_reducible exact ev_non | with_reducible exact ev_str
  | ((with_reducible refine' ev_b ?z1); (case z1 => rfl)) | ((with_reducible refine' ev_var ?z1); (case z1 => rfl)) | ((with_reducible refine' ev_o ?z1); (case z1 => rfl))
  | ((with_reducible refine' ev_op ?z1 ?z2 ?z3); (case z1 => walk_at "ze"); (case z2 => walk_at "ze"); (case z3 => walk_at "zo"))
  | ((with_reducible refine' ev_chain ?z1 ?z2 ?z3 ?z4 ?z5); (case z1 => walk_at "ze"); (case z2 => walk_at "ze"); (case z4 => walk_at "zo"); (case z3 => intro _; walk_at "ze"); (case z5 => intro _; walk_at "zo"))
  | ((with_reducible refine' ev_andV ?z1 ?z2); (case z1 => walk_at "ze"); (case z2 => intro _; walk_at "ze"))
  | ((with_reducible refine' ev_orV ?z1 ?z2); (case z1 => walk_at "ze"); (case z2 => intro _; walk_at "ze"))
  | ((with_reducible refine' ev_notV ?z1); (case z1 => walk_at "ze"))
  | ((with_reducible refine' ev_neg ?z1); (case z1 => walk_at "ze"))
  | ((with_reducible refine' ev_tupD ?z1 ?z2); (case z1 => walk_at "za"); (case z2 => exact Nat.le_of_ble_eq_true rfl))
  | ((with_reducible refine' ev_cb ?z1 ?z2); (case z1 => walk_at "za"); (case z2 => walk_at "zc"))
  | ((with_reducible refine' EvN.ev ?z1); (case z1 => walk_at "zn"))
  | walk_at "zf")
local macro_rules | `(tactic| walk_at "zb") => `(tactic| first
  | with_reducible assumption
  | ((with_reducible refine' ev_b ?z1); (case z1 => rfl)) | ((with_reducible refine' ev_o ?z1); (case z1 => rfl))
  | ((with_reducible refine' Ev.bl ?z1); (case z1 => walk_at "ze")))
local macro_rules | `(tactic| walk_at "zn") => `(tactic| first
  | with_reducible assumption
  | ((with_reducible refine' en_lstD ?z1 ?z2); (case z1 => walk_at "za"); (case z2 => exact Nat.le_of_ble_eq_true rfl))
  | ((with_reducible refine' en_cb ?z1 ?z2); (case z1 => walk_at "za"); (case z2 => first | exact cl_list | exact cl_listP)))
local macro_rules | `(tactic| walk_at "zt") => `(tactic| first
  | with_reducible assumption
  | ((with_reducible refine' et_test ?z1); (case z1 => walk_at "ze"))
  | ((with_reducible refine' et_B ?z1); (case z1 => walk_at "ze"))
  | ((with_reducible refine' et_and ?z1 ?z2); (case z1 => walk_at "zt"); (case z2 => intro _; walk_at "zt"))
  | ((with_reducible refine' et_or ?z1 ?z2); (case z1 => walk_at "zt"); (case z2 => intro _; walk_at "zt"))
  | ((with_reducible refine' et_not ?z1); (case z1 => walk_at "zt")))
local macro_rules | `(tactic| walk_at "zf") => `(tactic| first
  | ((with_reducible refine' c_is_size ?z1); (case z1 => walk_at "ze"))
  | ((with_reducible refine' c_is_price ?z1); (case z1 => walk_at "ze"))
  | ((with_reducible refine' c_are_ends ?z1 ?z2 ?z3); (case z1 => walk_at "ze"); (case z2 => walk_at "ze"); (case z3 => walk_at "ze"))
  | ((with_reducible refine' c_mix ?z0 ?z1 ?z2 ?z3); (case z1 => walk_at "zb"); (case z2 => walk_at "ze"); (case z3 => walk_at "ze"); (case z0 => first | assumption | omega | decide))
  | ((with_reducible refine' fld_size (by assumption) ?z1); (case z1 => walk_at "ze"))
  | ((with_reducible refine' fld_edges (by assumption) ?z1); (case z1 => walk_at "ze")))
section
variable {P : Program} {w : World} {K : PySem.W.Frag} {mg : Str → Option Value} {base : Heap}
theorem ok_Network_size (T : Tx K mg) : FnOk P w K mg base (L2.CX P w) 1 T.f_Network_size T.fd_Network_size ["self"] (sp_Network_size T) := by
  refine T.F_Network_size.okX sc_Network_size (SpA.len fun _ => rfl) (fun cdv A outer s H vs Q E hr h => ⟨_, (pss_one (ps_ret (kpe_fld K (pv 0) rfl))), ?_⟩)
  refine SpA.go h N_Network_size 1 (fun _ => rfl) ?_
  rintro ⟨n, es⟩ -
  exact ⟨_, [], rfl, Ex.is (Ex.ret (by walk_at "ze")) (by rfl)⟩

theorem ok_Network_edges (T : Tx K mg) : FnOk P w K mg base (L2.CX P w) 1 T.f_Network_edges T.fd_Network_edges ["self"] (sp_Network_edges T) := by
  refine T.F_Network_edges.okX sc_Network_edges (SpA.len fun _ => rfl) (fun cdv A outer s H vs Q E hr h => ⟨_, (pss_one (ps_ret (pe_callTy (kcall_list K) (by rfl) T.z_list (by decide +kernel) (pa_cons (kpe_fld K (pv 0) rfl) pa_nil)))), ?_⟩)
  refine SpA.go h N_Network_edges 1 (fun _ => rfl) ?_
  rintro ⟨n, es⟩ -
  exact ⟨.own (oL (es.map eE)), [], rfl, Ex.is (Ex.retO (by walk_at "zn")) (by rfl)⟩

theorem ok_Network_around (T : Tx K mg) : FnOk P w K mg base (L2.CX P w) 4 T.f_Network_around T.fd_Network_around ["self", "vertex"] (sp_Network_around T) := by
  refine T.F_Network_around.okX sc_Network_around (SpA.len fun _ => rfl) (fun cdv A outer s H vs Q E hr h => ⟨_, (pss_cons (ps_expr (pe_call (ok_need_vertex T) (hr.mono (by decide)) (by rfl) T.g_need_vertex T.F_need_vertex.kp T.b_need_vertex .nil (passes_call (takes_of rfl rfl rfl rfl) fun _ _ _ _ z => z) (pa_cons (kpe_fld K (pv 0) rfl) (pa_cons (pv 1) pa_nil))))
      (pss_one (ps_ret (pe_lc (own := [("number", 2), ("edge", 3)]) (g := (gTup K 2 (gCons (gName 2) (gCons (gName 3) gNil)))) rfl sc_Network_around.nd (kpi_enum K (by rfl) T.z_enumerate (pa_cons (kpe_fld K (pv 0) rfl) pa_nil)) (blkOk_by (N := N_Network_around) (sc := defScope s_Network_around) (by decide +kernel)) (fun _ _ _ _ _ => (kpg_tup K (n := 2) rfl (pgs_cons (pg_name (i := 2) sc_Network_around.nd rfl (by first | exact Or.inl rfl | exact Or.inr rfl)) (pgs_cons (pg_name (i := 3) sc_Network_around.nd rfl (by first | exact Or.inl rfl | exact Or.inr rfl)) pgs_nil)))) (fun _ _ _ _ _ => (pts_one (pt_cmpR (kop_in K) (pv 1) (pe_tup (pa_cons (pe_ix (kix_tup K) (pv 3) pe_int (fun _ _ => rfl)) (pa_cons (pe_ix (kix_tup K) (pv 3) pe_int (fun _ _ => rfl)) pa_nil))) rfl))) (fun _ _ _ _ _ => (pv 2)))))), ?_⟩)
  refine SpA.go h N_Network_around 2 (fun _ => rfl) ?_
  rintro ⟨⟨n, es⟩, v⟩ hl
  have hl : es.length ≤ 200 := hl
  by_cases c : isVert n v = true
  · refine ⟨.own (oL ((aroundL es v).map .int)), [], if_pos c, ?_⟩
    refine Ex.seq (Ex.drop (c_need_vertex c (by walk_at "ze") (by walk_at "ze"))) ?_
    refine Ex.retO (EvN.is (en_lc (K := K) (xs := es.zipIdx) (en := fun p : E3 × Nat => .tuple [.int (p.2 : Int), eE p.1]) (f := fun p => .int (p.2 : Int)) (p := fun p => decide (v ∈ [p.1.1, p.1.2.1])) (ei_enumT (en := eE) (Ev.s (fld_edges T (by walk_at "ze")))) ⟨rfl, rfl, trivial⟩ (by rw [List.length_zipIdx]; omega)
      fun p hp => ⟨[2, 3], _, eg_tup (egs_cons eg_name (egs_cons eg_name egs_nil)) rfl, fun i hi => hi, .k (.k (.x (.x .nil))), EvT.is (by walk_at "zt") (by rfl), fun _ => Ev.is (by walk_at "ze") (by rfl)⟩) ?_)
    unfold aroundL
    rw [List.map_map]
    rfl
  · exact ⟨_, _, if_neg c, Ex.seqE (Ex.dropX (x_need_vertex c (by walk_at "ze") (by walk_at "ze"))) rfl⟩

theorem ok_Network_leaving (T : Tx K mg) : FnOk P w K mg base (L2.CX P w) 4 T.f_Network_leaving T.fd_Network_leaving ["self", "vertex"] (sp_Network_leaving T) := by
  refine T.F_Network_leaving.okX sc_Network_leaving (SpA.len fun _ => rfl) (fun cdv A outer s H vs Q E hr h => ⟨_, (pss_cons (ps_expr (pe_call (ok_need_vertex T) (hr.mono (by decide)) (by rfl) T.g_need_vertex T.F_need_vertex.kp T.b_need_vertex .nil (passes_call (takes_of rfl rfl rfl rfl) fun _ _ _ _ z => z) (pa_cons (kpe_fld K (pv 0) rfl) (pa_cons (pv 1) pa_nil))))
      (pss_one (ps_ret (pe_lc (own := [("number", 2), ("edge", 3)]) (g := (gTup K 2 (gCons (gName 2) (gCons (gName 3) gNil)))) rfl sc_Network_leaving.nd (kpi_enum K (by rfl) T.z_enumerate (pa_cons (kpe_fld K (pv 0) rfl) pa_nil)) (blkOk_by (N := N_Network_leaving) (sc := defScope s_Network_leaving) (by decide +kernel)) (fun _ _ _ _ _ => (kpg_tup K (n := 2) rfl (pgs_cons (pg_name (i := 2) sc_Network_leaving.nd rfl (by first | exact Or.inl rfl | exact Or.inr rfl)) (pgs_cons (pg_name (i := 3) sc_Network_leaving.nd rfl (by first | exact Or.inl rfl | exact Or.inr rfl)) pgs_nil)))) (fun _ _ _ _ _ => (pts_one (pt_cmpR op_eq (pe_ix (kix_tup K) (pv 3) pe_int (fun _ _ => rfl)) (pv 1) (nomark _)))) (fun _ _ _ _ _ => (pv 2)))))), ?_⟩)
  refine SpA.go h N_Network_leaving 2 (fun _ => rfl) ?_
  rintro ⟨⟨n, es⟩, v⟩ hl
  have hl : es.length ≤ 200 := hl
  by_cases c : isVert n v = true
  · refine ⟨.own (oL ((leavingL es v).map .int)), [], if_pos c, ?_⟩
    refine Ex.seq (Ex.drop (c_need_vertex c (by walk_at "ze") (by walk_at "ze"))) ?_
    refine Ex.retO (EvN.is (en_lc (K := K) (xs := es.zipIdx) (en := fun p : E3 × Nat => .tuple [.int (p.2 : Int), eE p.1]) (f := fun p => .int (p.2 : Int)) (p := fun p => decide (p.1.1 = v)) (ei_enumT (en := eE) (Ev.s (fld_edges T (by walk_at "ze")))) ⟨rfl, rfl, trivial⟩ (by rw [List.length_zipIdx]; omega)
      fun p hp => ⟨[2, 3], _, eg_tup (egs_cons eg_name (egs_cons eg_name egs_nil)) rfl, fun i hi => hi, .k (.k (.x (.x .nil))), EvT.is (by walk_at "zt") (by rfl), fun _ => Ev.is (by walk_at "ze") (by rfl)⟩) ?_)
    unfold leavingL
    rw [List.map_map]
    rfl
  · exact ⟨_, _, if_neg c, Ex.seqE (Ex.dropX (x_need_vertex c (by walk_at "ze") (by walk_at "ze"))) rfl⟩

theorem ok_Network_entering (T : Tx K mg) : FnOk P w K mg base (L2.CX P w) 4 T.f_Network_entering T.fd_Network_entering ["self", "vertex"] (sp_Network_entering T) := by
  refine T.F_Network_entering.okX sc_Network_entering (SpA.len fun _ => rfl) (fun cdv A outer s H vs Q E hr h => ⟨_, (pss_cons (ps_expr (pe_call (ok_need_vertex T) (hr.mono (by decide)) (by rfl) T.g_need_vertex T.F_need_vertex.kp T.b_need_vertex .nil (passes_call (takes_of rfl rfl rfl rfl) fun _ _ _ _ z => z) (pa_cons (kpe_fld K (pv 0) rfl) (pa_cons (pv 1) pa_nil))))
      (pss_one (ps_ret (pe_lc (own := [("number", 2), ("edge", 3)]) (g := (gTup K 2 (gCons (gName 2) (gCons (gName 3) gNil)))) rfl sc_Network_entering.nd (kpi_enum K (by rfl) T.z_enumerate (pa_cons (kpe_fld K (pv 0) rfl) pa_nil)) (blkOk_by (N := N_Network_entering) (sc := defScope s_Network_entering) (by decide +kernel)) (fun _ _ _ _ _ => (kpg_tup K (n := 2) rfl (pgs_cons (pg_name (i := 2) sc_Network_entering.nd rfl (by first | exact Or.inl rfl | exact Or.inr rfl)) (pgs_cons (pg_name (i := 3) sc_Network_entering.nd rfl (by first | exact Or.inl rfl | exact Or.inr rfl)) pgs_nil)))) (fun _ _ _ _ _ => (pts_one (pt_cmpR op_eq (pe_ix (kix_tup K) (pv 3) pe_int (fun _ _ => rfl)) (pv 1) (nomark _)))) (fun _ _ _ _ _ => (pv 2)))))), ?_⟩)
  refine SpA.go h N_Network_entering 2 (fun _ => rfl) ?_
  rintro ⟨⟨n, es⟩, v⟩ hl
  have hl : es.length ≤ 200 := hl
  by_cases c : isVert n v = true
  · refine ⟨.own (oL ((enteringL es v).map .int)), [], if_pos c, ?_⟩
    refine Ex.seq (Ex.drop (c_need_vertex c (by walk_at "ze") (by walk_at "ze"))) ?_
    refine Ex.retO (EvN.is (en_lc (K := K) (xs := es.zipIdx) (en := fun p : E3 × Nat => .tuple [.int (p.2 : Int), eE p.1]) (f := fun p => .int (p.2 : Int)) (p := fun p => decide (p.1.2.1 = v)) (ei_enumT (en := eE) (Ev.s (fld_edges T (by walk_at "ze")))) ⟨rfl, rfl, trivial⟩ (by rw [List.length_zipIdx]; omega)
      fun p hp => ⟨[2, 3], _, eg_tup (egs_cons eg_name (egs_cons eg_name egs_nil)) rfl, fun i hi => hi, .k (.k (.x (.x .nil))), EvT.is (by walk_at "zt") (by rfl), fun _ => Ev.is (by walk_at "ze") (by rfl)⟩) ?_)
    unfold enteringL
    rw [List.map_map]
    rfl
  · exact ⟨_, _, if_neg c, Ex.seqE (Ex.dropX (x_need_vertex c (by walk_at "ze") (by walk_at "ze"))) rfl⟩

theorem ok_Network_other_end (T : Tx K mg) : FnOk P w K mg base (L2.CX P w) 1 T.f_Network_other_end T.fd_Network_other_end ["self", "number", "vertex"] (sp_Network_other_end T) := by
  refine T.F_Network_other_end.okX sc_Network_other_end (SpA.len fun _ => rfl) (fun cdv A outer s H vs Q E hr h => ⟨_, (pss_cons (ps_asg (pe_ix (kix_list K) (kpe_fld K (pv 0) rfl) (pv 1) (fun _ _ => rfl)) (kpg_tup K (n := 3) rfl (pgs_cons (pg_name (i := 3) sc_Network_other_end.nd rfl (by first | exact Or.inl rfl | exact Or.inr rfl)) (pgs_cons (pg_name (i := 4) sc_Network_other_end.nd rfl (by first | exact Or.inl rfl | exact Or.inr rfl)) (pgs_cons (pg_name (i := 5) sc_Network_other_end.nd rfl (by first | exact Or.inl rfl | exact Or.inr rfl)) pgs_nil)))))
      (pss_cons (ps_if (pt_cmpR op_eq (pv 3) (pv 2) (nomark _))
        (pss_one (ps_ret (pv 4)))
        pss_nil)
      (pss_one (ps_ret (pv 3))))), ?_⟩)
  refine SpA.go h N_Network_other_end 3 (fun _ => rfl) ?_
  rintro ⟨⟨n, es⟩, k, v⟩ ⟨h0, h1⟩
  have h0 : 0 ≤ k := h0
  have h1 : k < es.length := h1
  obtain ⟨e, he⟩ : ∃ e, e = es.getD k.toNat (0, 0, 0) := ⟨_, rfl⟩
  have hk : es[k.toNat]? = some e := by
    rw [he, List.getD_eq_getElem?_getD, List.getElem?_eq_getElem (by omega)]; rfl
  have hi : atI (es.map eE) k = some (eE e) := atI_map h0 hk
  refine ⟨.ok (dI (otherEnd es k v)), [], rfl, ?_⟩
  refine Ex.seq (Ex.asg (R := dat (eE e)) (ev_op (fld_edges T (by walk_at "ze")) (by walk_at "ze") (Op2.l (o_ixL hi))) (eg_tup (egs_cons eg_name (egs_cons eg_name (egs_cons eg_name egs_nil))) rfl)) ?_
  have ho : otherEnd es k v = if e.1 = v then e.2.1 else e.1 := by rw [he]; rfl
  refine Ex.ite (b := decide (e.1 = v)) (EvT.is (by walk_at "zt") (by rfl)) (fun z => ?_) (fun z => Ex.skip ?_)
  · refine Ex.seqE (Ex.is (Ex.ret (by walk_at "ze")) ?_) rfl
    rw [ho, if_pos (of_decide_eq_true z)]; rfl
  · refine Ex.is (Ex.ret (by walk_at "ze")) ?_
    rw [ho, if_neg (of_decide_eq_false z)]; rfl

end
end Q

set_option Elab.async false
set_option linter.all false
set_option maxRecDepth 100000
set_option maxHeartbeats 4000000
namespace Q
open PySem PySem.Spec PyProof.Rows L2 Z
local macro_rules | `(tactic| walk_at "zo") => `(tactic| first
  | with_reducible exact o_int0 | with_reducible exact o_bool0 | exact o_eqI | exact o_neI
  | exact o_intC (by assumption) | exact o_intC (by show (0 : Int) < _; omega) | exact o_intC ⟨by omega, by omega⟩ | exact o_intC (Or.inr ⟨by omega, by omega⟩) | exact o_intC (Or.inl ⟨by omega, by omega⟩) | exact o_intC ⟨by decide, by decide, by decide⟩
  | exact o_ixL (by assumption) | exact Op2.l (o_ixL (by assumption)) | exact o_ixT rfl | exact o_inT2 | exact o_inT | exact o_inL | exact Op2.r o_inL | exact o_notInL | exact Op2.r o_notInL | exact o_isN | exact o_notN)
local macro_rules | `(tactic| walk_at "zc") => `(tactic| first
  | exact cl_len | exact cl_lenP | exact cl_int | exact cl_abs | exact cl_min2 | exact cl_max2 | exact cl_intB | exact cl_sum | exact cl_any | exact cl_all)
local macro_rules | `(tactic| walk_at "za") => `(tactic| first
  | with_reducible exact ea_nil | with_reducible exact ed_nil
  | ((with_reducible refine' ed_cons ?z1 ?z2); (case z1 => walk_at "ze"); (case z2 => walk_at "za"))
  | ((with_reducible refine' ea_cons ?z1 ?z2); (case z1 => walk_at "ze"); (case z2 => walk_at "za")))
local macro_rules | `(tactic| walk_at "ze") => `(tactic| first
  | with_reducible assumption
  | with_reducible exact ev_int | with_reducible exact ev_bl | with_reducible exact ev_non | with_reducible exact ev_str
  | ((with_reducible refine' ev_b ?z1); (case z1 => rfl)) | ((with_reducible refine' ev_var ?z1); (case z1 => rfl)) | ((with_reducible refine' ev_o ?z1); (case z1 => rfl))
  | ((with_reducible refine' ev_op ?z1 ?z2 ?z3); (case z1 => walk_at "ze"); (case z2 => walk_at "ze"); (case z3 => walk_at "zo"))
  | ((with_reducible refine' ev_chain ?z1 ?z2 ?z3 ?z4 ?z5); (case z1 => walk_at "ze"); (case z2 => walk_at "ze"); (case z4 => walk_at "zo"); (case z3 => intro _; walk_at "ze"); (case z5 => intro _; walk_at "zo"))
  | ((with_reducible refine' ev_andV ?z1 ?z2); (case z1 => walk_at "ze"); (case z2 => intro _; walk_at "ze"))
  | ((with_reducible refine' ev_orV ?z1 ?z2); (case z1 => walk_at "ze"); (case z2 => intro _; walk_at "ze"))
  | ((with_reducible refine' ev_notV ?z1); (case z1 => walk_at "ze"))
  | ((with_reducible refine' ev_neg ?z1); (case z1 => walk_at "ze"))
  | ((with_reducible refine' ev_tupD ?z1 ?z2); (case z1 => walk_at "za"); (case z2 => exact Nat.le_of_ble_eq_true rfl))
  | ((with_reducible refine' ev_cb ?z1 ?z2); (case z1 => walk_at "za"); (case z2 => walk_at "zc"))
  | ((with_reducible refine' EvN.ev ?z1); (case z1 => walk_at "zn"))
  | walk_at "zf")
local macro_rules | `(tactic| walk_at "zb") => `(tactic| first
  | with_reducible assumption
  | ((with_reducible refine' ev_b ?z1); (case z1 => rfl)) | ((with_reducible refine' ev_o ?z1); (case z1 => rfl))
  | ((with_reducible refine' Ev.bl ?z1); (case z1 => walk_at "ze")))
local macro_rules | `(tactic| walk_at "zn") => `(tactic| first
  | with_reducible assumption
  | ((with_reducible refine' en_lstD ?z1 ?z2); (case z1 => walk_at "za"); (case z2 => exact Nat.le_of_ble_eq_true rfl))
  | ((with_reducible refine' en_cb ?z1 ?z2); (case z1 => walk_at "za"); (case z2 => first | exact cl_list | exact cl_listP)))
local macro_rules | `(tactic| walk_at "zt") => `(tactic| first
  | with_reducible assumption
  | ((with_reducible refine' et_test ?z1); (case z1 => walk_at "ze"))
  | ((with_reducible refine' et_B ?z1); (case z1 => walk_at "ze"))
  | ((with_reducible refine' et_and ?z1 ?z2); (case z1 => walk_at "zt"); (case z2 => intro _; walk_at "zt"))
  | ((with_reducible refine' et_or ?z1 ?z2); (case z1 => walk_at "zt"); (case z2 => intro _; walk_at "zt"))
  | ((with_reducible refine' et_not ?z1); (case z1 => walk_at "zt")))
local macro_rules | `(tactic| walk_at "zf") => `(tactic| first
  | ((with_reducible refine' c_is_size ?z1); (case z1 => walk_at "ze"))
  | ((with_reducible refine' c_is_price ?z1); (case z1 => walk_at "ze"))
  | ((with_reducible refine' c_are_ends ?z1 ?z2 ?z3); (case z1 => walk_at "ze"); (case z2 => walk_at "ze"); (case z3 => walk_at "ze"))
  | ((with_reducible refine' c_mix ?z0 ?z1 ?z2 ?z3); (case z1 => walk_at "zb"); (case z2 => walk_at "ze"); (case z3 => walk_at "ze"); (case z0 => first | assumption | omega | decide))
  | ((with_reducible refine' fld_size (by assumption) ?z1); (case z1 => walk_at "ze"))
  | ((with_reducible refine' fld_edges (by assumption) ?z1); (case z1 => walk_at "ze")))
section
variable {P : Program} {w : World} {K : PySem.W.Frag} {mg : Str → Option Value} {base : Heap}
theorem ok_Network_with_price (T : Tx K mg) : FnOk P w K mg base (L2.CX P w) 5 T.f_Network_with_price T.fd_Network_with_price ["self", "number", "price"] (sp_Network_with_price T) := by
  refine T.F_Network_with_price.okX sc_Network_with_price (SpA.len fun _ => rfl) (fun cdv A outer s H vs Q E hr h => ⟨_, (pss_cons (ps_if (pt_not (pt_chain op_le op_lt pe_int (pv 1) (pe_callB (kcall_len K) (by rfl) T.z_len PySem.boot_len (pa_cons (kpe_fld K (pv 0) rfl) pa_nil))))
        (pss_one (ps_raise rfl (takes_of rfl rfl rfl rfl) (pmk_oex T.x_BadEdge.1 T.x_BadEdge.2.2.1 T.x_BadEdge.2.2.2.1 (ok_WebError___init__ T) (hr.mono (by decide)) T.b_WebError___init__ .nil pass_no (by rfl) T.x_BadEdge.2.2.2.2 (pa_cons (pv 1) pa_nil))))
        pss_nil)
      (pss_cons (ps_set (i := 3) sc_Network_with_price.nd rfl (by first | exact Or.inl rfl | exact Or.inr rfl) (pe_callTy (kcall_list K) (by rfl) T.z_list (by decide +kernel) (pa_cons (kpe_fld K (pv 0) rfl) pa_nil)))
      (pss_cons (ps_asg (pe_ix (kix_list K) (pv 3) (pv 1) (fun _ _ => rfl)) (kpg_tup K (n := 3) rfl (pgs_cons (pg_name (i := 4) sc_Network_with_price.nd rfl (by first | exact Or.inl rfl | exact Or.inr rfl)) (pgs_cons (pg_name (i := 5) sc_Network_with_price.nd rfl (by first | exact Or.inl rfl | exact Or.inr rfl)) (pgs_cons (pg_name (i := 6) sc_Network_with_price.nd rfl (by first | exact Or.inl rfl | exact Or.inr rfl)) pgs_nil)))))
      (pss_cons (ps_asg (pe_tup (pa_cons (pv 4) (pa_cons (pv 5) (pa_cons (pv 2) pa_nil)))) (pg_sub (pv 3) (pv 1) set_list))
      (pss_one (ps_ret (pe_make T.mk_Network (ok_Network___init__ T) (hr.mono (by decide)) (by rfl) T.g_Network T.b_Network___init__ .nil (passes_call (takes_of rfl rfl rfl rfl) fun _ _ _ _ z => z) (pa_cons (kpe_fld K (pv 0) rfl) (pa_cons (pv 3) pa_nil))))))))), ?_⟩)
  refine SpA.go h N_Network_with_price 3 (fun _ => rfl) ?_
  rintro ⟨⟨n, es⟩, k, p⟩ hl
  have hl : es.length ≤ 200 := hl
  by_cases c : isVert es.length k = true
  case neg =>
    refine ⟨_, [.b (pu (netR T n es)), .b (pu (dI k)), .b (pu (dI p)), .x, .x, .x, .x], if_neg c, ?_⟩
    refine Ex.ite (b := !(isVert (es.map eE).length k)) (EvT.is (by walk_at "zt") (by rfl)) (fun z => ?_) (fun z => ?_)
    · exact Ex.seqE (Ex.raise_ (by walk_at "za") T.x_BadEdge.1 T.x_BadEdge.2.1) rfl
    · rw [List.length_map] at z
      exact absurd (by simpa using z) c
  case pos =>
    have cc : 0 ≤ k ∧ k < es.length := by simpa [isVert] using c
    obtain ⟨h0, h1⟩ := cc
    obtain ⟨e, he⟩ : ∃ e, e = es.getD k.toNat (0, 0, 0) := ⟨_, rfl⟩
    have hk : es[k.toNat]? = some e := by
      rw [he, List.getD_eq_getElem?_getD, List.getElem?_eq_getElem (by omega)]; rfl
    have hi : atI (es.map eE) k = some (eE e) := atI_map h0 hk
    have hj : ixN (es.map eE).length k = some k.toNat := by
      unfold ixN
      rw [if_pos h0, if_pos (by rw [List.length_map]; exact h1)]
    have hset : (es.map eE).set k.toNat (eE (e.1, e.2.1, p)) = (withP es k p).map eE := by
      unfold withP
      rw [List.map_set, ← he]
    let ρf : List Sl := [.b (pu (netR T n es)), .b (pu (dI k)), .b (pu (dI p)), .o (oL ((es.map eE).set k.toNat (eE (e.1, e.2.1, p)))), .p (dI e.1), .p (dI e.2.1), .p (dI e.2.2)]
    have e3 : ρf[3]? = some (.o (oL ((withP es k p).map eE))) := by rw [← hset]; rfl
    have hw : ∃ (r : Res), withR T ((n, es), k, p) = r ∧ Ex (WofE E) (tRet (tMake T.c_Network (sp_Network___init__ T) [] E (tCons (tFld K (tVar 0) "_size") (tCons (tVar 3) tNil)))) ρf (r.out ρf) := by
      cases hN : netErr n (withP es k p) with
      | some ka =>
        obtain ⟨kk, a⟩ := ka
        refine ⟨.err (T.cls kk) a, ?_, ?_⟩
        · show (if isVert es.length k = true then _ else _) = _
          rw [if_pos c]
          show (match netErr n (withP es k p) with | some (k, a) => Res.err (T.cls k) a | none => _) = _
          rw [hN]
        · exact Ex.retX (ex_make (F := netI T) (n, withP es k p) (ea_cons (fld_size T (ev_b rfl)) (ea_cons (ev_o e3) ea_nil)) trivial (netI_err T hN))
      | none =>
        refine ⟨.ok (netR T n (withP es k p)), ?_, ?_⟩
        · show (if isVert es.length k = true then _ else _) = _
          rw [if_pos c]
          show (match netErr n (withP es k p) with | some (k, a) => Res.err (T.cls k) a | none => _) = _
          rw [hN]
        · exact Ex.ret (ev_make (F := netI T) (n, withP es k p) (ea_cons (fld_size T (ev_b rfl)) (ea_cons (ev_o e3) ea_nil)) trivial (netI_ok T hN))
    obtain ⟨r, hF, hr⟩ := hw
    refine ⟨r, ρf, hF, ?_⟩
    refine Ex.ite (b := !(isVert (es.map eE).length k)) (EvT.is (by walk_at "zt") (by rfl)) (fun z => by rw [List.length_map, c] at z; cases z) (fun _ => Ex.skip ?_)
    refine Ex.seq (Ex.setN (i := 3) (ds := es.map eE) (by walk_at "zn") (by show 3 < 7; decide)) ?_
    refine Ex.seq (Ex.asg (R := dat (eE e)) (ev_op (ev_o rfl) (by walk_at "ze") (o_ixL hi)) (eg_tup (egs_cons eg_name (egs_cons eg_name (egs_cons eg_name egs_nil))) rfl)) ?_
    refine Ex.seq (Ex.setitem (i := 3) (ds := es.map eE) (d := eE (e.1, e.2.1, p)) rfl (Ev.is (by walk_at "ze") (by rfl)) (by walk_at "ze") hj) ?_
    exact hr

end
end Q

set_option Elab.async false
set_option linter.all false
set_option maxRecDepth 100000
set_option maxHeartbeats 4000000
namespace Q
open PySem PySem.Spec PyProof.Rows L2 Z

/-! ### what is drawn -/
def dig (s : Int × List Int) : Int × List Int := if 0 < s.1 then (s.1 / 65536, s.2 ++ [s.1 % 65536]) else s
def absI (n : Int) : Int := if n < 0 then -n else n
def mixA (r : Int) (k : Int) : Int := ((r * 48271 + (k + 1) * 69621) % 2147483647 * 16807 + 11 * k + 5) % 2147483629
def drawOne (xs : List Int) (ds : List Int) (k : Nat) : List Int := if (10 : Int) ^ 18 ≤ absI (xs.getD k 0) then ((List.range 60).foldl (fun s _ => dig s) (absI (xs.getD k 0), ds)).2 else (ds ++ [mixA (absI (xs.getD k 0)) k % 65536]) ++ [mixA (absI (xs.getD k 0)) k / 65536 % 32768]
def drawsL (xs : List Int) : List Int := (List.range (min 63 xs.length)).foldl (drawOne xs) []
theorem digs_len (ks : List Nat) : ∀ s : Int × List Int, (ks.foldl (fun s _ => dig s) s).2.length ≤ s.2.length + ks.length := by
  induction ks with
  | nil => intro s; exact Nat.le_refl _
  | cons k ks ih =>
    intro s
    refine Nat.le_trans (ih _) ?_
    have : (dig s).2.length ≤ s.2.length + 1 := by
      unfold dig
      split
      · simp
      · omega
    rw [List.length_cons]
    show (dig s).2.length + ks.length ≤ _
    omega
theorem drawOne_len (xs ds : List Int) (k : Nat) : (drawOne xs ds k).length ≤ ds.length + 60 := by
  unfold drawOne
  split
  · refine Nat.le_trans (digs_len _ _) ?_
    simp
  · simp
theorem draws_len (xs : List Int) (ks : List Nat) : ∀ ds : List Int, (ks.foldl (drawOne xs) ds).length ≤ ds.length + 60 * ks.length := by
  induction ks with
  | nil => intro ds; simp
  | cons k ks ih =>
    intro ds
    refine Nat.le_trans (ih _) ?_
    have := drawOne_len xs ds k
    rw [List.length_cons]
    omega
def edgeN (ds : List Int) (k size top : Int) (j : Nat) : E3 := (mix ds (k + 3 + 3 * j) size, (mix ds (k + 3 + 3 * j) size + 1 + mix ds (k + 4 + 3 * j) (size - 1)) % size, mix ds (k + 5 + 3 * j) top)
def sizeN (ds : List Int) (k sizes : Int) : Int := 1 + mix ds k sizes
def edgesN (ds : List Int) (k size many top : Int) : List E3 := if 1 < size then (List.range (mix ds (k + 1) (many + 1)).toNat).map (edgeN ds k size top) else []
/-! ### which networks are good -/
theorem firstBad_none {n : Int} : ∀ {ps : List (E3 × Nat)}, (∀ p ∈ ps, isEnds n p.1.1 p.1.2.1 = true ∧ isPrice p.1.2.2 = true) → firstBad n ps = none
  | [], _ => rfl
  | p :: r, h => by
    have hb : badEdge n p.1 = none := by
      unfold badEdge
      rw [if_pos (h p (List.mem_cons_self ..)).1, if_pos (h p (List.mem_cons_self ..)).2]
    have e1 : firstBad n (p :: r) = firstBad n r := by conv => lhs; unfold firstBad; simp only [hb]
    rw [e1]
    exact firstBad_none fun q hq => h q (List.mem_cons_of_mem _ hq)
theorem firstBad_of_none {n : Int} : ∀ {ps : List (E3 × Nat)}, firstBad n ps = none → ∀ p ∈ ps, isEnds n p.1.1 p.1.2.1 = true ∧ isPrice p.1.2.2 = true
  | [], _, _, h => nomatch h
  | p :: r, h, q, hq => by
    rcases badEdge_cases n p.1 with ⟨h1, h2⟩ | ⟨h1, h2, h3⟩ | ⟨h1, h2, h3⟩
    · unfold firstBad at h; simp only [h2] at h; cases h
    · unfold firstBad at h; simp only [h3] at h; cases h
    · unfold firstBad at h; simp only [h3] at h
      rcases List.mem_cons.mp hq with rfl | hq
      · exact ⟨h1, h2⟩
      · exact firstBad_of_none h q hq
theorem mem_zip {es : List E3} {e : E3} (h : e ∈ es) : ∃ k, (e, k) ∈ es.zipIdx := by
  obtain ⟨i, hi, rfl⟩ := List.mem_iff_getElem.mp h
  exact ⟨i, List.mk_mem_zipIdx_iff_getElem?.mpr (List.getElem?_eq_getElem hi)⟩
structure Fine (n : Int) (es : List E3) : Prop where
  lo : 1 ≤ n
  hi : n ≤ 40
  len : es.length ≤ 200
  ends : ∀ e ∈ es, isEnds n e.1 e.2.1 = true
  price : ∀ e ∈ es, isPrice e.2.2 = true
theorem Fine.good {n : Int} {es : List E3} (h : Fine n es) : netErr n es = none := by
  unfold netErr
  rw [if_pos (show isSize n = true by unfold isSize; rw [decide_eq_true h.lo, decide_eq_true h.hi]; rfl), if_neg (by have := h.len; omega)]
  exact firstBad_none fun p hp => ⟨h.ends _ (List.fst_mem_of_mem_zipIdx hp), h.price _ (List.fst_mem_of_mem_zipIdx hp)⟩
theorem ends_of {n u v : Int} (h : isEnds n u v = true) : 0 ≤ u ∧ u < n ∧ 0 ≤ v ∧ v < n ∧ u ≠ v := by
  simpa [isEnds, and_assoc] using h
theorem ends_mk {n u v : Int} (h : 0 ≤ u ∧ u < n ∧ 0 ≤ v ∧ v < n ∧ u ≠ v) : isEnds n u v = true := by
  simpa [isEnds, and_assoc] using h
theorem fine_net {ds : List Int} {k sizes many top : Int} (h1 : 0 < sizes) (h2 : sizes ≤ 40) (h3 : 0 ≤ many) (h4 : many ≤ 200) (h5 : 0 < top) (h6 : top ≤ 1048577) : Fine (sizeN ds k sizes) (edgesN ds k (sizeN ds k sizes) many top) := by
  have m := mix_bd (ds := ds) (k := k) h1
  have m2 := mix_bd (ds := ds) (k := k + 1) (many := many + 1) (by omega)
  refine ⟨by unfold sizeN; omega, by unfold sizeN; omega, ?_, ?_, ?_⟩
  · unfold edgesN
    split
    · rw [List.length_map, List.length_range]; omega
    · exact Nat.zero_le _
  · intro e he
    unfold edgesN at he
    split at he
    · next hs =>
      obtain ⟨j, _, rfl⟩ := List.mem_map.mp he
      generalize sizeN ds k sizes = n at hs
      have a := mix_bd (ds := ds) (k := k + 3 + 3 * j) (many := n) (by omega)
      have b := mix_bd (ds := ds) (k := k + 4 + 3 * j) (many := n - 1) (by omega)
      refine ends_mk ⟨a.1, a.2, Int.emod_nonneg _ (by omega), Int.emod_lt_of_pos _ (by omega), ?_⟩
      show mix ds (k + 3 + 3 * j) n ≠ (mix ds (k + 3 + 3 * j) n + 1 + mix ds (k + 4 + 3 * j) (n - 1)) % n
      generalize mix ds (k + 3 + 3 * j) n = u at a
      generalize mix ds (k + 4 + 3 * j) (n - 1) = d at b
      by_cases hc : u + 1 + d < n
      · rw [Int.emod_eq_of_lt (by omega) hc]; omega
      · rw [show u + 1 + d = (u + 1 + d - n) + n by omega, Int.add_emod_right, Int.emod_eq_of_lt (by omega) (by omega)]; omega
    · cases he
  · intro e he
    unfold edgesN at he
    split at he
    · obtain ⟨j, _, rfl⟩ := List.mem_map.mp he
      have a := mix_bd (ds := ds) (k := k + 5 + 3 * j) (many := top) h5
      show isPrice (mix ds (k + 5 + 3 * j) top) = true
      unfold isPrice
      rw [decide_eq_true a.1, decide_eq_true (by omega)]; rfl
    · cases he
/-! ### what is due -/
instance : DecidableEq EK := fun a b => by cases a <;> cases b <;> first | exact isTrue rfl | exact isFalse (fun h => by cases h)
def kindsM (k : EK) : PyData := .list [.bool (decide (k = .oor)), .bool (decide (k = .tm)), .bool (decide (k = .bv)), .bool (decide (k = .bp))]
def madeD (n : Int) (es : List E3) : PyData := match netErr n es with | some (k, a) => .tuple [kindsM k, .int a] | none => .none
theorem madeD_err {n : Int} {es : List E3} {k : EK} {a : Int} (h : netErr n es = some (k, a)) : madeD n es = .tuple [kindsM k, .int a] := by unfold madeD; rw [h]
theorem madeD_ok {n : Int} {es : List E3} (h : netErr n es = none) : madeD n es = .none := by unfold madeD; rw [h]
def refE (way n : Int) (es : List E3) (num price : Int) : Option (EK × Int) := if way = 0 ∨ way = 1 ∨ way = 2 then (if isVert n num = true then none else some (.bv, num)) else (if isVert es.length num = true then netErr n (withP es num price) else some (.be, num))
def kindsR (k : EK) : PyData := .list [.bool (decide (k = .bv)), .bool (decide (k = .be)), .bool (decide (k = .bp))]
def refD (way n : Int) (es : List E3) (num price : Int) : PyData := match refE way n es num price with | some (k, a) => .tuple [kindsR k, .int a] | none => .none
theorem refD_err {way n num price : Int} {es : List E3} {k : EK} {a : Int} (h : refE way n es num price = some (k, a)) : refD way n es num price = .tuple [kindsR k, .int a] := by unfold refD; rw [h]
theorem refD_ok {way n num price : Int} {es : List E3} (h : refE way n es num price = none) : refD way n es num price = .none := by unfold refD; rw [h]
/-! ### rows that are bad -/
def priceB (ds : List Int) (turn j : Nat) : Int := [3, -1 - mix ds (33 + turn) 9, 1048577 + mix ds (33 + turn) 9, 1048576].getD (mix ds (34 + 5 * turn + j) 4).toNat 0
def endB (ds : List Int) (size : Int) (turn j : Nat) : Int := mix ds (30 + 5 * turn + j) (size + 3) - 1
def edgeB (ds : List Int) (size : Int) (turn j : Nat) : E3 := (endB ds size turn j, [endB ds size turn j, mix ds (31 + 5 * turn + j) (size + 3) - 1].getD (mix ds (32 + 5 * turn + j) 2).toNat 0, priceB ds turn j)
def badOne (ds : List Int) (size : Int) (turn : Nat) (bad : List E3) (j : Nat) : List E3 := bad.take (mix ds (35 + 5 * turn + j) (bad.length + 1)).toNat ++ [edgeB ds size turn j] ++ bad.drop (mix ds (35 + 5 * turn + j) (bad.length + 1)).toNat
def badTurn (ds : List Int) (size : Int) (es : List E3) (turn : Nat) : List E3 := (List.range (1 + mix ds (20 + turn) 2).toNat).foldl (badOne ds size turn) es
def rows3 (ds : List Int) (size : Int) (es : List E3) : List (Int × List E3) := [(mix ds 9 3 - 2, es), (41 + mix ds 9 50, es), (size, es ++ List.replicate 201 (0, 1, 5))]
def badRows (ds : List Int) (size : Int) (es : List E3) : List (Int × List E3) := rows3 ds size es ++ (List.range 4).map fun t => (size, badTurn ds size es t)
def eRow (r : Int × List E3) : PyData := .tuple [.int r.1, eEs r.2]
section
variable {K : PySem.W.Frag} {mg : Str → Option Value} (T : Tx K mg)
def sp_law_draws (_ : Tx K mg) : Sp := SpA (α := List Int) (fun xs => xs.length ≤ 63) (fun xs => [pu (scR K xs)]) (fun xs => .own (oL ((drawsL xs).map .int)))
def sp_law_network (_ : Tx K mg) : Sp := SpA (α := List Int × Int × Int × Int × Int) (fun x => 0 < x.2.2.1 ∧ 0 ≤ x.2.2.2.1 ∧ x.2.2.2.1 ≤ 1000 ∧ 0 < x.2.2.2.2) (fun x => [bL (x.1.map .int), pu (dI x.2.1), pu (dI x.2.2.1), pu (dI x.2.2.2.1), pu (dI x.2.2.2.2)])
  (fun x => .own (oPair (sizeN x.1 x.2.1 x.2.2.1) ((edgesN x.1 x.2.1 (sizeN x.1 x.2.1 x.2.2.1) x.2.2.2.1 x.2.2.2.2).map eE)))
def sp_law_made (_ : Tx K mg) : Sp := SpA (α := Int × List E3) (fun _ => True) (fun x => [pu (dI x.1), bL (x.2.map eE)]) (fun x => .ok (dat (madeD x.1 x.2)))
def sp_law_due (_ : Tx K mg) : Sp := SpA (α := Int × List E3) (fun _ => True) (fun x => [pu (dI x.1), bL (x.2.map eE)]) (fun x => .ok (dat (madeD x.1 x.2)))
def sp_law_refused : Sp := SpA (α := Int × (Int × List E3) × Int × Int) (fun x => x.2.1.2.length ≤ 200) (fun x => [pu (dI x.1), pu (netR T x.2.1.1 x.2.1.2), pu (dI x.2.2.1), pu (dI x.2.2.2)]) (fun x => .ok (dat (refD x.1 x.2.1.1 x.2.1.2 x.2.2.1 x.2.2.2)))
def sp_law_alike : Sp := SpA (α := Int × List E3) (fun x => Fine x.1 x.2) (fun x => [pu (netR T x.1 x.2), pu (dI x.1), pu (dat (eEs x.2))]) (fun _ => .ok (dB true))
def sp_law_bad_ones (_ : Tx K mg) : Sp := SpA (α := List Int × Int × List E3) (fun x => 1 ≤ x.2.1 ∧ x.2.2.length ≤ 200) (fun x => [bL (x.1.map .int), pu (dI x.2.1), pu (dat (eEs x.2.2))]) (fun x => .own (oL ((badRows x.1 x.2.1 x.2.2).map eRow)))
def spLaw (K : PySem.W.Frag) : Sp := SpA (α := List Int) (fun xs => xs.length ≤ 63) (fun xs => [pu (scR K xs)]) (fun _ => .ok (dB true))
abbrev sp_law (_ : Tx K mg) : Sp := spLaw K
theorem Tx.isk : ∀ k k' : EK, PySem.W.kitOne K (.ref (T.cls k)) (.ref (T.cls k')) = some (decide (k = k'))
  | .oor, .oor => T.is_OutOfRange_OutOfRange | .oor, .bv => T.is_OutOfRange_BadVertex | .oor, .bp => T.is_OutOfRange_BadPrice | .oor, .be => T.is_OutOfRange_BadEdge | .oor, .tm => T.is_OutOfRange_TooMany
  | .bv, .oor => T.is_BadVertex_OutOfRange | .bv, .bv => T.is_BadVertex_BadVertex | .bv, .bp => T.is_BadVertex_BadPrice | .bv, .be => T.is_BadVertex_BadEdge | .bv, .tm => T.is_BadVertex_TooMany
  | .bp, .oor => T.is_BadPrice_OutOfRange | .bp, .bv => T.is_BadPrice_BadVertex | .bp, .bp => T.is_BadPrice_BadPrice | .bp, .be => T.is_BadPrice_BadEdge | .bp, .tm => T.is_BadPrice_TooMany
  | .be, .oor => T.is_BadEdge_OutOfRange | .be, .bv => T.is_BadEdge_BadVertex | .be, .bp => T.is_BadEdge_BadPrice | .be, .be => T.is_BadEdge_BadEdge | .be, .tm => T.is_BadEdge_TooMany
  | .tm, .oor => T.is_TooMany_OutOfRange | .tm, .bv => T.is_TooMany_BadVertex | .tm, .bp => T.is_TooMany_BadPrice | .tm, .be => T.is_TooMany_BadEdge | .tm, .tm => T.is_TooMany_TooMany
theorem Tx.emk : ∀ k : EK, PySem.W.exmOne K (.ref (T.cls k)) (.ref T.c_WebError) = some true
  | .oor => T.em_OutOfRange | .bv => T.em_BadVertex | .bp => T.em_BadPrice | .be => T.em_BadEdge | .tm => T.em_TooMany
theorem Tx.ek : ∀ k : EK, ExcC K (T.cls k) ∧ XfC K (T.cls k) ∧ PySem.W.findIn K (.ref (T.cls k)) "at" = some none
  | .oor => ⟨T.e_OutOfRange, T.ef_OutOfRange, T.x_OutOfRange.2.1⟩ | .bv => ⟨T.e_BadVertex, T.ef_BadVertex, T.x_BadVertex.2.1⟩ | .bp => ⟨T.e_BadPrice, T.ef_BadPrice, T.x_BadPrice.2.1⟩ | .be => ⟨T.e_BadEdge, T.ef_BadEdge, T.x_BadEdge.2.1⟩ | .tm => ⟨T.e_TooMany, T.ef_TooMany, T.x_TooMany.2.1⟩
end
end Q

set_option Elab.async false
set_option linter.all false
set_option maxRecDepth 100000
set_option maxHeartbeats 4000000
namespace Q
open PySem PySem.Spec PyProof.Rows L2 Z

section
variable {K : PySem.W.Frag} {mg : Str → Option Value} {T : Tx K mg} {W : WX} {E : XK} {ES : L2.St → XK} {ρ : List Sl} {te ta tb tc : TE} {n v : Int} {es : List E3}
theorem ms_around (hl : es.length ≤ 200) (c : isVert n v = true) (h : Ev te ρ (pu (netR T n es))) (h1 : Ev ta ρ (pu (dI v))) : EvN (tMethSx T.c_Network "around" (sp_Network_around T) ES te (tCons ta tNil)) ρ ((aroundL es v).map .int) := en_methSx (B0 := fun (x : (Int × List E3) × Int) => pu (netR T x.1.1 x.1.2)) (A := fun (x : (Int × List E3) × Int) => [pu (dI x.2)]) ((n, es), v) h (by rfl) (ea_cons h1 ea_nil) (fun _ _ _ q => q) hl (if_pos c)
theorem ms_leaving (hl : es.length ≤ 200) (c : isVert n v = true) (h : Ev te ρ (pu (netR T n es))) (h1 : Ev ta ρ (pu (dI v))) : EvN (tMethSx T.c_Network "leaving" (sp_Network_leaving T) ES te (tCons ta tNil)) ρ ((leavingL es v).map .int) := en_methSx (B0 := fun (x : (Int × List E3) × Int) => pu (netR T x.1.1 x.1.2)) (A := fun (x : (Int × List E3) × Int) => [pu (dI x.2)]) ((n, es), v) h (by rfl) (ea_cons h1 ea_nil) (fun _ _ _ q => q) hl (if_pos c)
theorem ms_entering (hl : es.length ≤ 200) (c : isVert n v = true) (h : Ev te ρ (pu (netR T n es))) (h1 : Ev ta ρ (pu (dI v))) : EvN (tMethSx T.c_Network "entering" (sp_Network_entering T) ES te (tCons ta tNil)) ρ ((enteringL es v).map .int) := en_methSx (B0 := fun (x : (Int × List E3) × Int) => pu (netR T x.1.1 x.1.2)) (A := fun (x : (Int × List E3) × Int) => [pu (dI x.2)]) ((n, es), v) h (by rfl) (ea_cons h1 ea_nil) (fun _ _ _ q => q) hl (if_pos c)
theorem xs_around (hl : es.length ≤ 200) (c : ¬ isVert n v = true) (h : Ev te ρ (pu (netR T n es))) (h1 : Ev ta ρ (pu (dI v))) : EvX W (tMethSx T.c_Network "around" (sp_Network_around T) (WE W) te (tCons ta tNil)) ρ (T.cls .bv) v := ex_methSx (B0 := fun (x : (Int × List E3) × Int) => pu (netR T x.1.1 x.1.2)) (A := fun (x : (Int × List E3) × Int) => [pu (dI x.2)]) ((n, es), v) h (by rfl) (ea_cons h1 ea_nil) (fun _ _ _ q => q) hl (if_neg c)
theorem xs_leaving (hl : es.length ≤ 200) (c : ¬ isVert n v = true) (h : Ev te ρ (pu (netR T n es))) (h1 : Ev ta ρ (pu (dI v))) : EvX W (tMethSx T.c_Network "leaving" (sp_Network_leaving T) (WE W) te (tCons ta tNil)) ρ (T.cls .bv) v := ex_methSx (B0 := fun (x : (Int × List E3) × Int) => pu (netR T x.1.1 x.1.2)) (A := fun (x : (Int × List E3) × Int) => [pu (dI x.2)]) ((n, es), v) h (by rfl) (ea_cons h1 ea_nil) (fun _ _ _ q => q) hl (if_neg c)
theorem xs_entering (hl : es.length ≤ 200) (c : ¬ isVert n v = true) (h : Ev te ρ (pu (netR T n es))) (h1 : Ev ta ρ (pu (dI v))) : EvX W (tMethSx T.c_Network "entering" (sp_Network_entering T) (WE W) te (tCons ta tNil)) ρ (T.cls .bv) v := ex_methSx (B0 := fun (x : (Int × List E3) × Int) => pu (netR T x.1.1 x.1.2)) (A := fun (x : (Int × List E3) × Int) => [pu (dI x.2)]) ((n, es), v) h (by rfl) (ea_cons h1 ea_nil) (fun _ _ _ q => q) hl (if_neg c)
theorem m_around (hl : es.length ≤ 200) (c : isVert n v = true) (h : Ev te ρ (pu (netR T n es))) (h1 : Ev ta ρ (pu (dI v))) : EvN (tMeth T.c_Network "around" (sp_Network_around T) [] E te (tCons ta tNil)) ρ ((aroundL es v).map .int) := en_meth (B0 := fun (x : (Int × List E3) × Int) => pu (netR T x.1.1 x.1.2)) (A := fun (x : (Int × List E3) × Int) => [pu (dI x.2)]) ((n, es), v) h (by rfl) (ea_cons h1 ea_nil) (fun _ _ _ q => q) hl (if_pos c)
theorem m_leaving (hl : es.length ≤ 200) (c : isVert n v = true) (h : Ev te ρ (pu (netR T n es))) (h1 : Ev ta ρ (pu (dI v))) : EvN (tMeth T.c_Network "leaving" (sp_Network_leaving T) [] E te (tCons ta tNil)) ρ ((leavingL es v).map .int) := en_meth (B0 := fun (x : (Int × List E3) × Int) => pu (netR T x.1.1 x.1.2)) (A := fun (x : (Int × List E3) × Int) => [pu (dI x.2)]) ((n, es), v) h (by rfl) (ea_cons h1 ea_nil) (fun _ _ _ q => q) hl (if_pos c)
theorem m_entering (hl : es.length ≤ 200) (c : isVert n v = true) (h : Ev te ρ (pu (netR T n es))) (h1 : Ev ta ρ (pu (dI v))) : EvN (tMeth T.c_Network "entering" (sp_Network_entering T) [] E te (tCons ta tNil)) ρ ((enteringL es v).map .int) := en_meth (B0 := fun (x : (Int × List E3) × Int) => pu (netR T x.1.1 x.1.2)) (A := fun (x : (Int × List E3) × Int) => [pu (dI x.2)]) ((n, es), v) h (by rfl) (ea_cons h1 ea_nil) (fun _ _ _ q => q) hl (if_pos c)
theorem m_size (h : Ev te ρ (pu (netR T n es))) : Ev (tMeth T.c_Network "size" (sp_Network_size T) [] E te tNil) ρ (pu (dI n)) := ev_meth (B0 := fun (x : Int × List E3) => pu (netR T x.1 x.2)) (A := fun (x : Int × List E3) => []) (n, es) h (by rfl) ea_nil (fun _ _ _ q => q) trivial rfl
theorem m_edges (h : Ev te ρ (pu (netR T n es))) : EvN (tMeth T.c_Network "edges" (sp_Network_edges T) [] E te tNil) ρ (es.map eE) := en_meth (B0 := fun (x : Int × List E3) => pu (netR T x.1 x.2)) (A := fun (x : Int × List E3) => []) (n, es) h (by rfl) ea_nil (fun _ _ _ q => q) trivial rfl
theorem m_other {k : Int} (h0 : 0 ≤ k) (hl : k < es.length) (h : Ev te ρ (pu (netR T n es))) (h1 : Ev ta ρ (pu (dI k))) (h2 : Ev tb ρ (pu (dI v))) : Ev (tMeth T.c_Network "other_end" (sp_Network_other_end T) [] E te (tCons ta (tCons tb tNil))) ρ (pu (dI (otherEnd es k v))) := ev_meth (B0 := fun (x : (Int × List E3) × Int × Int) => pu (netR T x.1.1 x.1.2)) (A := fun (x : (Int × List E3) × Int × Int) => [pu (dI x.2.1), pu (dI x.2.2)]) ((n, es), k, v) h (by rfl) (ea_cons h1 (ea_cons h2 ea_nil)) (fun _ _ _ q => q) ⟨h0, hl⟩ rfl
theorem withR_ok {k p : Int} (c : isVert es.length k = true) (h : netErr n (withP es k p) = none) : withR T ((n, es), k, p) = .ok (netR T n (withP es k p)) := by
  show (if isVert es.length k = true then _ else _) = _
  rw [if_pos c]
  show (match netErr n (withP es k p) with | some (k, a) => Res.err (T.cls k) a | none => _) = _
  rw [h]
theorem withR_err {k p a : Int} {kk : EK} (h : (if isVert es.length k = true then netErr n (withP es k p) else some (.be, k)) = some (kk, a)) : withR T ((n, es), k, p) = .err (T.cls kk) a := by
  by_cases c : isVert es.length k = true
  · rw [if_pos c] at h
    show (if isVert es.length k = true then _ else _) = _
    rw [if_pos c]
    show (match netErr n (withP es k p) with | some (k, a) => Res.err (T.cls k) a | none => _) = _
    rw [h]
  · rw [if_neg c] at h
    cases h
    show (if isVert es.length k = true then _ else _) = _
    rw [if_neg c]
    rfl
theorem xs_with {k p a : Int} {kk : EK} (hl : es.length ≤ 200) (hR : (if isVert es.length k = true then netErr n (withP es k p) else some (.be, k)) = some (kk, a)) (h : Ev te ρ (pu (netR T n es))) (h1 : Ev ta ρ (pu (dI k))) (h2 : Ev tb ρ (pu (dI p))) : EvX W (tMethSx T.c_Network "with_price" (sp_Network_with_price T) (WE W) te (tCons ta (tCons tb tNil))) ρ (T.cls kk) a := ex_methSx (B0 := fun (x : (Int × List E3) × Int × Int) => pu (netR T x.1.1 x.1.2)) (A := fun (x : (Int × List E3) × Int × Int) => [pu (dI x.2.1), pu (dI x.2.2)]) ((n, es), k, p) h (by rfl) (ea_cons h1 (ea_cons h2 ea_nil)) (fun _ _ _ q => q) hl (withR_err hR)
theorem ms_with {k p : Int} (hl : es.length ≤ 200) (c : isVert es.length k = true) (hR : netErr n (withP es k p) = none) (h : Ev te ρ (pu (netR T n es))) (h1 : Ev ta ρ (pu (dI k))) (h2 : Ev tb ρ (pu (dI p))) : Ev (tMethSx T.c_Network "with_price" (sp_Network_with_price T) ES te (tCons ta (tCons tb tNil))) ρ (pu (netR T n (withP es k p))) := ev_methSx (B0 := fun (x : (Int × List E3) × Int × Int) => pu (netR T x.1.1 x.1.2)) (A := fun (x : (Int × List E3) × Int × Int) => [pu (dI x.2.1), pu (dI x.2.2)]) ((n, es), k, p) h (by rfl) (ea_cons h1 (ea_cons h2 ea_nil)) (fun _ _ _ q => q) hl (withR_ok c hR)
theorem m_with {k p : Int} (hl : es.length ≤ 200) (c : isVert es.length k = true) (hR : netErr n (withP es k p) = none) (h : Ev te ρ (pu (netR T n es))) (h1 : Ev ta ρ (pu (dI k))) (h2 : Ev tb ρ (pu (dI p))) : Ev (tMeth T.c_Network "with_price" (sp_Network_with_price T) [] E te (tCons ta (tCons tb tNil))) ρ (pu (netR T n (withP es k p))) := ev_meth (B0 := fun (x : (Int × List E3) × Int × Int) => pu (netR T x.1.1 x.1.2)) (A := fun (x : (Int × List E3) × Int × Int) => [pu (dI x.2.1), pu (dI x.2.2)]) ((n, es), k, p) h (by rfl) (ea_cons h1 (ea_cons h2 ea_nil)) (fun _ _ _ q => q) hl (withR_ok c hR)
end
/-! ### lists by ranges -/
theorem zip_range (es : List E3) : es.zipIdx = (List.range es.length).map fun k => (es.getD k (0, 0, 0), k) := by
  refine List.ext_getElem (by simp) fun i h1 h2 => ?_
  rw [List.getElem_zipIdx, List.getElem_map, List.getElem_range, List.getD_eq_getElem?_getD, List.getElem?_eq_getElem (by simpa using h1)]
  simp
def arL (es : List E3) (v : Int) : List Nat := (List.range es.length).filter fun k => decide (v ∈ [(es.getD k (0, 0, 0)).1, (es.getD k (0, 0, 0)).2.1])
theorem aroundL_eq (es : List E3) (v : Int) : (aroundL es v).map PyData.int = (arL es v).map fun k => .int (k : Int) := by
  unfold aroundL arL
  rw [zip_range, List.filter_map, List.map_map, List.map_map]
  rfl
theorem leavingL_eq (es : List E3) (v : Int) : (leavingL es v).map PyData.int = ((arL es v).filter fun k => decide ((es.getD k (0, 0, 0)).1 = v)).map fun k => .int (k : Int) := by
  unfold leavingL arL
  rw [zip_range, List.filter_map, List.map_map, List.map_map, List.filter_filter]
  congr 1
  refine List.filter_congr fun k _ => ?_
  show decide ((es.getD k (0, 0, 0)).1 = v) = _
  by_cases h : (es.getD k (0, 0, 0)).1 = v
  · rw [decide_eq_true h, decide_eq_true (show v ∈ [(es.getD k (0, 0, 0)).1, (es.getD k (0, 0, 0)).2.1] by rw [h]; exact List.mem_cons_self ..)]; rfl
  · rw [decide_eq_false h]; rfl
theorem enteringL_eq (es : List E3) (v : Int) : (enteringL es v).map PyData.int = ((arL es v).filter fun k => decide ((es.getD k (0, 0, 0)).2.1 = v)).map fun k => .int (k : Int) := by
  unfold enteringL arL
  rw [zip_range, List.filter_map, List.map_map, List.map_map, List.filter_filter]
  congr 1
  refine List.filter_congr fun k _ => ?_
  show decide ((es.getD k (0, 0, 0)).2.1 = v) = _
  by_cases h : (es.getD k (0, 0, 0)).2.1 = v
  · rw [decide_eq_true h, decide_eq_true (show v ∈ [(es.getD k (0, 0, 0)).1, (es.getD k (0, 0, 0)).2.1] by rw [h]; exact List.mem_cons_of_mem _ (List.mem_cons_self ..))]; rfl
  · rw [decide_eq_false h]; rfl
theorem atE {es : List E3} {k : Nat} (h : k < es.length) : atI (es.map eE) (k : Int) = some (eE (es.getD k (0, 0, 0))) := by
  refine atI_map (Int.natCast_nonneg _) ?_
  rw [Int.toNat_natCast, List.getD_eq_getElem?_getD, List.getElem?_eq_getElem h]
  rfl
end Q

set_option Elab.async false
set_option linter.all false
set_option maxRecDepth 100000
set_option maxHeartbeats 4000000
namespace Q
open PySem PySem.Spec PyProof.Rows L2 Z

theorem cut_take {ds : List PyData} {k : Int} (h0 : 0 ≤ k) (h1 : k ≤ ds.length) : Z.cutD ds none (some k) = ds.take k.toNat := by
  have e : HT.sIx ds.length ds.length (some k) = k.toNat := by
    show (if k < 0 then (k + (ds.length : Int)).toNat else min k.toNat ds.length) = _
    rw [if_neg (by omega), Nat.min_eq_left (by omega)]
  unfold Z.cutD
  rw [e]
  show (ds.drop 0).take (k.toNat - 0) = _
  rw [List.drop_zero, Nat.sub_zero]
theorem cut_drop {ds : List PyData} {k : Int} (h0 : 0 ≤ k) (h1 : k ≤ ds.length) : Z.cutD ds (some k) none = ds.drop k.toNat := by
  have e : HT.sIx ds.length 0 (some k) = k.toNat := by
    show (if k < 0 then (k + (ds.length : Int)).toNat else min k.toNat ds.length) = _
    rw [if_neg (by omega), Nat.min_eq_left (by omega)]
  unfold Z.cutD
  rw [e]
  show (ds.drop k.toNat).take (ds.length - k.toNat) = _
  exact List.take_of_length_le (by rw [List.length_drop]; omega)
theorem rep_flat {α : Type} (n : Nat) (d : α) : (List.replicate n [d]).flatten = List.replicate n d := by
  induction n with
  | zero => rfl
  | succ n ih => rw [List.replicate_succ, List.flatten_cons, ih]; rfl
theorem badOne_len (ds : List Int) (size : Int) (turn j : Nat) (bad : List E3) : (badOne ds size turn bad j).length = bad.length + 1 := by
  unfold badOne
  rw [List.length_append, List.length_append, List.length_take, List.length_drop]
  show min _ bad.length + 1 + _ = _
  omega
theorem badFold_len (ds : List Int) (size : Int) (turn : Nat) (ks : List Nat) : ∀ bad : List E3, (ks.foldl (badOne ds size turn) bad).length = bad.length + ks.length := by
  induction ks with
  | nil => intro bad; rfl
  | cons k ks ih =>
    intro bad
    rw [List.foldl_cons, ih, badOne_len, List.length_cons]
    omega
theorem getD_in {α : Type} (P : α → Prop) : ∀ (xs : List α) (k : Nat) (d : α), P d → (∀ x ∈ xs, P x) → P (xs.getD k d)
  | [], _, _, h, _ => h
  | x :: _, 0, _, _, h => h x (List.mem_cons_self ..)
  | _ :: xs, k + 1, d, h, h2 => getD_in P xs k d h fun x hx => h2 x (List.mem_cons_of_mem _ hx)
def Tiny (e : E3) : Prop := e.1.natAbs < 10 ^ 12 ∧ e.2.1.natAbs < 10 ^ 12 ∧ e.2.2.natAbs < 10 ^ 12
theorem edgeB_tiny {ds : List Int} {size : Int} {turn j : Nat} (h : 1 ≤ size) (h2 : size ≤ 1000) : Tiny (edgeB ds size turn j) := by
  have a : ∀ k, (mix ds k (size + 3) - 1).natAbs < 10 ^ 12 := fun k => by
    have := mix_bd (ds := ds) (k := k) (many := size + 3) (by omega)
    omega
  have b := mix_bd (ds := ds) (k := 33 + turn) (many := 9) (by decide)
  refine ⟨a _, getD_in (fun x : Int => x.natAbs < 10 ^ 12) _ _ _ (by decide) fun x hx => ?_, getD_in (fun x : Int => x.natAbs < 10 ^ 12) _ _ _ (by decide) fun x hx => ?_⟩
  · rcases List.mem_cons.mp hx with rfl | hx
    · exact a _
    · rcases List.mem_cons.mp hx with rfl | hx
      · exact a _
      · cases hx
  · rcases List.mem_cons.mp hx with rfl | hx
    · decide
    · rcases List.mem_cons.mp hx with rfl | hx
      · show (-1 - mix ds (33 + turn) 9).natAbs < 10 ^ 12
        omega
      · rcases List.mem_cons.mp hx with rfl | hx
        · show (1048577 + mix ds (33 + turn) 9).natAbs < 10 ^ 12
          omega
        · rcases List.mem_cons.mp hx with rfl | hx
          · decide
          · cases hx
theorem badFold_tiny {ds : List Int} {size : Int} {turn : Nat} (h : 1 ≤ size) (h2 : size ≤ 1000) (ks : List Nat) : ∀ bad : List E3, (∀ e ∈ bad, Tiny e) → ∀ e ∈ ks.foldl (badOne ds size turn) bad, Tiny e := by
  induction ks with
  | nil => intro bad hb; exact hb
  | cons k ks ih =>
    intro bad hb
    refine ih _ fun e he => ?_
    unfold badOne at he
    rcases List.mem_append.mp he with he | he
    · rcases List.mem_append.mp he with he | he
      · exact hb e (List.mem_of_mem_take he)
      · rcases List.mem_cons.mp he with rfl | he
        · exact edgeB_tiny h h2
        · cases he
    · exact hb e (List.mem_of_mem_drop he)
theorem row_small {n : Int} {es : List E3} (hn : n.natAbs < 10 ^ 12) (he : ∀ e ∈ es, Tiny e) (hl : es.length ≤ 401) : Sm 3 100002 (eRow (n, es)) := by
  have s1 : ∀ e ∈ es, Sm 1 123 (eE e) := fun e h => sm_tup (sm_cons (sm_int (he e h).1) (sm_cons (sm_int (he e h).2.1) (sm_cons (sm_int (he e h).2.2) sm_nil))) (show 3 * 41 ≤ 123 by decide)
  have s2 : Sm 2 50000 (eEs es) := sm_list (sm_map s1) (by rw [List.length_map]; omega)
  exact sm_tup (sm_cons ((sm_int hn).mono (Nat.le_refl _) (by decide)) (sm_cons s2 sm_nil)) (show 2 * 50001 ≤ 100002 by decide)
theorem rows_small {ds : List Int} {n : Int} {es : List E3} (F : Fine n es) : ∀ r ∈ badRows ds n es, Sm 3 100002 (eRow r) := by
  have hlo := F.lo
  have hhi := F.hi
  have hl := F.len
  have ht : ∀ e ∈ es, Tiny e := fun e he => by
    have := ends_of (F.ends e he)
    have hp : 0 ≤ e.2.2 ∧ e.2.2 ≤ 1048576 := by simpa [isPrice] using F.price e he
    exact ⟨by omega, by omega, by omega⟩
  have m1 := mix_bd (ds := ds) (k := 9) (many := 3) (by decide)
  have m2 := mix_bd (ds := ds) (k := 9) (many := 50) (by decide)
  intro r hr
  rcases List.mem_append.mp hr with hr | hr
  · rcases List.mem_cons.mp hr with rfl | hr
    · exact row_small (by omega) ht (by omega)
    · rcases List.mem_cons.mp hr with rfl | hr
      · exact row_small (by omega) ht (by omega)
      · rcases List.mem_cons.mp hr with rfl | hr
        · refine row_small (by omega) (fun e he => ?_) (by rw [List.length_append, List.length_replicate]; omega)
          rcases List.mem_append.mp he with he | he
          · exact ht e he
          · rw [List.eq_of_mem_replicate he]; exact ⟨by decide, by decide, by decide⟩
        · cases hr
  · obtain ⟨t, _, rfl⟩ := List.mem_map.mp hr
    have m := mix_bd (ds := ds) (k := 20 + t) (many := 2) (by decide)
    refine row_small (by omega) (badFold_tiny hlo (by omega) _ _ ht) ?_
    unfold badTurn
    rw [badFold_len, List.length_range]
    omega
end Q

set_option Elab.async false
set_option linter.all false
set_option maxRecDepth 100000
set_option maxHeartbeats 4000000
namespace Q
open PySem PySem.Spec PyProof.Rows L2 Z

def topN (ds : List Int) : Int := [3, 60, 1048577].getD (mix ds 0 3).toNat 0
theorem top_bd (ds : List Int) : 0 < topN ds ∧ topN ds ≤ 1048577 := by
  have m := mix_bd (ds := ds) (k := 0) (many := 3) (by decide)
  have h : mix ds 0 3 = 0 ∨ mix ds 0 3 = 1 ∨ mix ds 0 3 = 2 := by omega
  unfold topN
  rcases h with h | h | h <;> rw [h] <;> decide
theorem good_edge {n : Int} {e : E3} (h : isEnds n e.1 e.2.1 = true) (h2 : isPrice e.2.2 = true) : badEdge n e = none := by
  unfold badEdge
  rw [if_pos h, if_pos h2]
theorem fb_set {n : Int} {e : E3} {k : EK} (he : badEdge n e = some k) : ∀ (es : List E3) (o i : Nat), (∀ e ∈ es, badEdge n e = none) → i < es.length → firstBad n ((es.set i e).zipIdx o) = some (k, ((o + i : Nat) : Int))
  | [], _, _, _, h => absurd h (Nat.not_lt_zero _)
  | x :: xs, o, 0, _, _ => by
    show firstBad n ((e :: xs).zipIdx o) = _
    rw [List.zipIdx_cons]
    unfold firstBad
    simp only [he]
    rfl
  | x :: xs, o, i + 1, h, hi => by
    show firstBad n ((x :: xs.set i e).zipIdx o) = _
    rw [List.zipIdx_cons]
    have e1 : firstBad n ((x, o) :: (xs.set i e).zipIdx (o + 1)) = firstBad n ((xs.set i e).zipIdx (o + 1)) := by conv => lhs; unfold firstBad; simp only [h x (List.mem_cons_self ..)]
    rw [e1, fb_set he xs (o + 1) i (fun e he => h e (List.mem_cons_of_mem _ he)) (by simpa using hi), show o + 1 + i = o + (i + 1) by omega]
theorem withP_bad {n k p : Int} {es : List E3} (F : Fine n es) (h0 : 0 ≤ k) (h1 : k < es.length) (hp : isPrice p = false) : netErr n (withP es k p) = some (.bp, k) := by
  have hlen : (withP es k p).length = es.length := by unfold withP; rw [List.length_set]
  unfold netErr
  rw [if_pos (show isSize n = true by unfold isSize; rw [decide_eq_true F.lo, decide_eq_true F.hi]; rfl), if_neg (by have := F.len; rw [hlen]; omega)]
  have hm : es.getD k.toNat (0, 0, 0) ∈ es := by
    rw [List.getD_eq_getElem?_getD, List.getElem?_eq_getElem (by omega)]
    exact List.getElem_mem _
  have he : badEdge n ((es.getD k.toNat (0, 0, 0)).1, (es.getD k.toNat (0, 0, 0)).2.1, p) = some .bp := by
    unfold badEdge
    rw [if_pos (F.ends _ hm), if_neg (by rw [hp]; decide)]
  unfold withP
  rw [fb_set he es 0 k.toNat (fun e he => good_edge (F.ends e he) (F.price e he)) (by omega), Nat.zero_add, Int.toNat_of_nonneg h0]
theorem withP_fine {n k p : Int} {es : List E3} (F : Fine n es) (h0 : 0 ≤ k) (h1 : k < es.length) (hp : isPrice p = true) : Fine n (withP es k p) := by
  have hm : es.getD k.toNat (0, 0, 0) ∈ es := by
    rw [List.getD_eq_getElem?_getD, List.getElem?_eq_getElem (by omega)]
    exact List.getElem_mem _
  refine ⟨F.lo, F.hi, by unfold withP; rw [List.length_set]; exact F.len, fun e he => ?_, fun e he => ?_⟩
  · rcases List.mem_or_eq_of_mem_set he with he | rfl
    · exact F.ends e he
    · exact (F.ends (es.getD k.toNat (0, 0, 0)) hm : _)
  · rcases List.mem_or_eq_of_mem_set he with he | rfl
    · exact F.price e he
    · exact hp
theorem sh_made {n : Int} {es : List E3} : Sh 2 (madeD n es) := by
  unfold madeD
  split
  · exact sh_tup (sh_cons (sh_list (sh_cons sh_bool (sh_cons sh_bool (sh_cons sh_bool (sh_cons sh_bool sh_nil))))) (sh_cons sh_int sh_nil))
  · exact sh_none
theorem sh_ref {k : EK} {a : Int} : Sh 2 (.tuple [kindsR k, .int a]) := sh_tup (sh_cons (sh_list (sh_cons sh_bool (sh_cons sh_bool (sh_cons sh_bool sh_nil)))) (sh_cons sh_int sh_nil))
theorem refE_v {way n num price : Int} {es : List E3} (hw : way = 0 ∨ way = 1 ∨ way = 2) (c : isVert n num = false) : refD way n es num price = .tuple [kindsR .bv, .int num] := refD_err (by unfold refE; rw [if_pos hw, if_neg (by rw [c]; decide)])
theorem refE_e {n num price : Int} {es : List E3} (c : isVert es.length num = false) : refD 3 n es num price = .tuple [kindsR .be, .int num] := refD_err (by unfold refE; rw [if_neg (by decide), if_neg (by rw [c]; decide)])
theorem refE_p {n k p : Int} {es : List E3} (F : Fine n es) (h0 : 0 ≤ k) (h1 : k < es.length) (hp : isPrice p = false) : refD 3 n es k p = .tuple [kindsR .bp, .int k] := refD_err (by
  unfold refE
  rw [if_neg (by decide), if_pos (by unfold isVert; rw [decide_eq_true h0, decide_eq_true h1]; rfl), withP_bad F h0 h1 hp])
section
variable {K : PySem.W.Frag} {mg : Str → Option Value} {T : Tx K mg} {E : XK} {ρ : List Sl} {te ta tb tc : TE} {n v : Int} {es : List E3}
theorem c_draws {xs : List Int} (hl : xs.length ≤ 63) (h : Ev te ρ (pu (scR K xs))) : EvN (tCall (sp_law_draws T) [] E (tCons te tNil)) ρ ((drawsL xs).map .int) := en_call xs (ea_cons h ea_nil) hl rfl
theorem c_alike (F : Fine n es) (h : Ev te ρ (pu (netR T n es))) (h1 : Ev ta ρ (pu (dI n))) (h2 : Ev tb ρ (pu (dat (eEs es)))) : Ev (tCall (sp_law_alike T) [] E (tCons te (tCons ta (tCons tb tNil)))) ρ (pu (dB true)) := ev_call (n, es) (ea_cons h (ea_cons h1 (ea_cons h2 ea_nil))) F rfl
theorem c_bad {ds : List Int} (hn : 1 ≤ n) (hl : es.length ≤ 200) (h : Ev te ρ (bL (ds.map .int))) (h1 : Ev ta ρ (pu (dI n))) (h2 : Ev tb ρ (pu (dat (eEs es)))) : EvN (tCall (sp_law_bad_ones T) [] E (tCons te (tCons ta (tCons tb tNil)))) ρ ((badRows ds n es).map eRow) := en_call (ds, n, es) (ea_cons h (ea_cons h1 (ea_cons h2 ea_nil))) ⟨hn, hl⟩ rfl
theorem c_made (h : Ev te ρ (pu (dI n))) (h1 : Ev ta ρ (bL (es.map eE))) : Ev (tCall (sp_law_made T) [] E (tCons te (tCons ta tNil))) ρ (pu (dat (madeD n es))) := ev_call (n, es) (ea_cons h (ea_cons h1 ea_nil)) trivial rfl
theorem c_due (h : Ev te ρ (pu (dI n))) (h1 : Ev ta ρ (bL (es.map eE))) : Ev (tCall (sp_law_due T) [] E (tCons te (tCons ta tNil))) ρ (pu (dat (madeD n es))) := ev_call (n, es) (ea_cons h (ea_cons h1 ea_nil)) trivial rfl
theorem c_refused {way num price : Int} {D : PyData} (hl : es.length ≤ 200) (hD : refD way n es num price = D) (h : Ev te ρ (pu (dI way))) (h1 : Ev ta ρ (pu (netR T n es))) (h2 : Ev tb ρ (pu (dI num))) (h3 : Ev tc ρ (pu (dI price))) : Ev (tCall (sp_law_refused T) [] E (tCons te (tCons ta (tCons tb (tCons tc tNil))))) ρ (pu (dat D)) := ev_call (way, (n, es), num, price) (ea_cons h (ea_cons h1 (ea_cons h2 (ea_cons h3 ea_nil)))) hl (by show Res.ok (dat (refD way n es num price)) = _; rw [hD])
end
end Q

set_option Elab.async false
set_option linter.all false
set_option maxRecDepth 100000
set_option maxHeartbeats 4000000
namespace Q
open PySem PySem.Spec PyProof.Rows L2 Z
local macro_rules | `(tactic| walk_at "zo") => `(tactic| first
  | with_reducible exact o_int0 | with_reducible exact o_bool0 | exact o_eqI | exact o_neI
  | exact o_intC (by assumption) | exact o_intC (by show (0 : Int) < _; omega) | exact o_intC ⟨by omega, by omega⟩ | exact o_intC (Or.inr ⟨by omega, by omega⟩) | exact o_intC (Or.inl ⟨by omega, by omega⟩) | exact o_intC ⟨by decide, by decide, by decide⟩
  | exact o_ixL (by assumption) | exact Op2.l (o_ixL (by assumption)) | exact o_ixT rfl | exact o_inT2 | exact o_inT | exact o_inL | exact Op2.r o_inL | exact o_notInL | exact Op2.r o_notInL | exact o_isN | exact o_notN)
local macro_rules | `(tactic| walk_at "zc") => `(tactic| first
  | exact cl_len | exact cl_lenP | exact cl_int | exact cl_abs | exact cl_min2 | exact cl_max2 | exact cl_intB | exact cl_sum | exact cl_any | exact cl_all)
local macro_rules | `(tactic| walk_at "za") => `(tactic| first
  | with_reducible exact ea_nil | with_reducible exact ed_nil
  | ((with_reducible refine' ed_cons ?z1 ?z2); (case z1 => walk_at "ze"); (case z2 => walk_at "za"))
  | ((with_reducible refine' ea_cons ?z1 ?z2); (case z1 => walk_at "ze"); (case z2 => walk_at "za")))
local macro_rules | `(tactic| walk_at "ze") => `(tactic| first
  | with_reducible assumption
  | with_reducible exact ev_int | with_reducible exact ev_bl | with_reducible exact ev_non | with_reducible exact ev_str
  | ((with_reducible refine' ev_b ?z1); (case z1 => rfl)) | ((with_reducible refine' ev_var ?z1); (case z1 => rfl)) | ((with_reducible refine' ev_o ?z1); (case z1 => rfl))
  | ((with_reducible refine' ev_op ?z1 ?z2 ?z3); (case z1 => walk_at "ze"); (case z2 => walk_at "ze"); (case z3 => walk_at "zo"))
  | ((with_reducible refine' ev_chain ?z1 ?z2 ?z3 ?z4 ?z5); (case z1 => walk_at "ze"); (case z2 => walk_at "ze"); (case z4 => walk_at "zo"); (case z3 => intro _; walk_at "ze"); (case z5 => intro _; walk_at "zo"))
  | ((with_reducible refine' ev_andV ?z1 ?z2); (case z1 => walk_at "ze"); (case z2 => intro _; walk_at "ze"))
  | ((with_reducible refine' ev_orV ?z1 ?z2); (case z1 => walk_at "ze"); (case z2 => intro _; walk_at "ze"))
  | ((with_reducible refine' ev_notV ?z1); (case z1 => walk_at "ze"))
  | ((with_reducible refine' ev_neg ?z1); (case z1 => walk_at "ze"))
  | ((with_reducible refine' ev_tupD ?z1 ?z2); (case z1 => walk_at "za"); (case z2 => exact Nat.le_of_ble_eq_true rfl))
  | ((with_reducible refine' ev_cb ?z1 ?z2); (case z1 => walk_at "za"); (case z2 => walk_at "zc"))
  | ((with_reducible refine' EvN.ev ?z1); (case z1 => walk_at "zn"))
  | walk_at "zf")
local macro_rules | `(tactic| walk_at "zb") => `(tactic| first
  | with_reducible assumption
  | ((with_reducible refine' ev_b ?z1); (case z1 => rfl)) | ((with_reducible refine' ev_o ?z1); (case z1 => rfl))
  | ((with_reducible refine' Ev.bl ?z1); (case z1 => walk_at "ze")))
local macro_rules | `(tactic| walk_at "zn") => `(tactic| first
  | with_reducible assumption
  | ((with_reducible refine' en_lstD ?z1 ?z2); (case z1 => walk_at "za"); (case z2 => exact Nat.le_of_ble_eq_true rfl))
  | ((with_reducible refine' en_cb ?z1 ?z2); (case z1 => walk_at "za"); (case z2 => first | exact cl_list | exact cl_listP)))
local macro_rules | `(tactic| walk_at "zt") => `(tactic| first
  | with_reducible assumption
  | ((with_reducible refine' et_test ?z1); (case z1 => walk_at "ze"))
  | ((with_reducible refine' et_B ?z1); (case z1 => walk_at "ze"))
  | ((with_reducible refine' et_and ?z1 ?z2); (case z1 => walk_at "zt"); (case z2 => intro _; walk_at "zt"))
  | ((with_reducible refine' et_or ?z1 ?z2); (case z1 => walk_at "zt"); (case z2 => intro _; walk_at "zt"))
  | ((with_reducible refine' et_not ?z1); (case z1 => walk_at "zt")))
local macro_rules | `(tactic| walk_at "zf") => `(tactic| first
  | ((with_reducible refine' c_is_size ?z1); (case z1 => walk_at "ze"))
  | ((with_reducible refine' c_is_price ?z1); (case z1 => walk_at "ze"))
  | ((with_reducible refine' c_are_ends ?z1 ?z2 ?z3); (case z1 => walk_at "ze"); (case z2 => walk_at "ze"); (case z3 => walk_at "ze"))
  | ((with_reducible refine' c_mix ?z0 ?z1 ?z2 ?z3); (case z1 => walk_at "zb"); (case z2 => walk_at "ze"); (case z3 => walk_at "ze"); (case z0 => first | assumption | omega | decide))
  | ((with_reducible refine' fld_size (by assumption) ?z1); (case z1 => walk_at "ze"))
  | ((with_reducible refine' fld_edges (by assumption) ?z1); (case z1 => walk_at "ze")))
local macro_rules | `(tactic| walk_at "zc") => `(tactic| exact cl_lenS)
local macro_rules | `(tactic| walk_at "zo") => `(tactic| exact o_ixS (by omega) (by assumption))
section
variable {P : Program} {w : World} {K : PySem.W.Frag} {mg : Str → Option Value} {base : Heap}
theorem ok_law_draws (T : Tx K mg) : FnOk P w K mg base (L2.CX P w) 1 T.f_law_draws T.fd_law_draws ["script"] (sp_law_draws T) := by
  refine T.F_law_draws.okX sc_law_draws (SpA.len fun _ => rfl) (fun cdv A outer s H vs Q E hr h => ⟨_, (pss_cons (ps_set (i := 1) sc_law_draws.nd rfl (by first | exact Or.inl rfl | exact Or.inr rfl) (pe_lst pa_nil))
      (pss_cons (ps_for (passes_of rfl) rfl (pi_range1 (by rfl) T.z_range (pa_cons (pe_callB (call_min2 rfl) (by rfl) T.z_min (by decide +kernel) (pa_cons pe_int (pa_cons (pe_callB (kcall_len K) (by rfl) T.z_len PySem.boot_len (pa_cons (pv 0) pa_nil)) pa_nil))) pa_nil)) (pg_name (i := 2) sc_law_draws.nd rfl (by first | exact Or.inl rfl | exact Or.inr rfl))
        (pss_cons (ps_set (i := 3) sc_law_draws.nd rfl (by first | exact Or.inl rfl | exact Or.inr rfl) (pe_callB call_abs (by rfl) T.z_abs (by decide +kernel) (pa_cons (pe_ix (kix_list K) (pv 0) (pv 2) (fun _ _ => rfl)) pa_nil)))
      (pss_one (ps_if (pt_cmpR op_ge (pv 3) (pe_op op_pow pe_int pe_int) (nomark _))
        (pss_one (ps_for (passes_of rfl) rfl (pi_range1 (by rfl) T.z_range (pa_cons pe_int pa_nil)) (pg_name (i := 4) sc_law_draws.nd rfl (by first | exact Or.inl rfl | exact Or.inr rfl))
        (pss_one (ps_if (pt_cmpR op_gt (pv 3) pe_int (nomark _))
        (pss_cons (ps_expr (pe_bm PySem.F.plainAttrs_list PySem.F.slot_list_append PySem.F.type_list_append mt_append (pv 1) (pa_cons (pe_op op_mod (pe_callTy call_int1 (by rfl) T.z_int (by decide +kernel) (pa_cons (pv 3) pa_nil)) pe_int) pa_nil)))
      (pss_one (ps_set (i := 3) sc_law_draws.nd rfl (by first | exact Or.inl rfl | exact Or.inr rfl) (pe_op op_fdiv (pv 3) pe_int))))
        pss_nil))))
        (pss_cons (ps_set (i := 5) sc_law_draws.nd rfl (by first | exact Or.inl rfl | exact Or.inr rfl) (pe_op op_mod (pe_callTy call_int1 (by rfl) T.z_int (by decide +kernel) (pa_cons (pe_op op_add (pe_op op_mul (pv 3) pe_int) (pe_op op_mul (pe_op op_add (pv 2) pe_int) pe_int)) pa_nil)) pe_int))
      (pss_cons (ps_set (i := 5) sc_law_draws.nd rfl (by first | exact Or.inl rfl | exact Or.inr rfl) (pe_op op_mod (pe_callTy call_int1 (by rfl) T.z_int (by decide +kernel) (pa_cons (pe_op op_add (pe_op op_add (pe_op op_mul (pv 5) pe_int) (pe_op op_mul pe_int (pv 2))) pe_int) pa_nil)) pe_int))
      (pss_cons (ps_expr (pe_bm PySem.F.plainAttrs_list PySem.F.slot_list_append PySem.F.type_list_append mt_append (pv 1) (pa_cons (pe_op op_mod (pe_callTy call_int1 (by rfl) T.z_int (by decide +kernel) (pa_cons (pv 5) pa_nil)) pe_int) pa_nil)))
      (pss_one (ps_expr (pe_bm PySem.F.plainAttrs_list PySem.F.slot_list_append PySem.F.type_list_append mt_append (pv 1) (pa_cons (pe_op op_mod (pe_callTy call_int1 (by rfl) T.z_int (by decide +kernel) (pa_cons (pe_op op_fdiv (pv 5) pe_int) pa_nil)) pe_int) pa_nil)))))))))))
      (pss_one (ps_ret (pv 1))))), ?_⟩)
  refine SpA.go h N_law_draws 1 (fun _ => rfl) ?_
  intro xs hl
  have hl : xs.length ≤ 63 := hl
  refine ⟨.own (oL ((drawsL xs).map .int)), [.b (pu (scR K xs)), .o (oL ((drawsL xs).map .int)), .x, .x, .x, .x], rfl, ?_⟩
  refine Ex.seq (Ex.setN (i := 1) (ds := []) (by walk_at "zn") (by show 1 < 6; decide)) ?_
  have hi : EvI K (iRng1 (tCons (tCB cMin2 (tCons (tC (.int 63)) (tCons (tCB (cLen K) (tCons (tVar 0) tNil)) tNil))) tNil)) [.b (pu (scR K xs)), .o (oL []), .x, .x, .x, .x] ((List.range (min 63 xs.length)).map fun (k : Nat) => .int (k : Int)) := by
    have e : ((if ((xs.length : Nat) : Int) < 63 then ((xs.length : Nat) : Int) else 63)).toNat = min 63 xs.length := by split <;> omega
    rw [← e]
    exact ei_rangeT (by walk_at "za") (by split <;> omega) (by split <;> omega)
  refine Ex.seq (Ex.for_ (K := K) (xs := List.range (min 63 xs.length)) (en := fun (k : Nat) => .int (k : Int)) (fun pre => [.b (pu (scR K xs)), .o (oL ((pre.foldl (drawOne xs) []).map .int)), .x, .x, .x, .x]) hi (Wk.refl _) ?_) ?_
  · intro pre k post e
    have hk : k < min 63 xs.length := List.mem_range.mp (by rw [e]; simp)
    have hp : pre.length ≤ 63 := by
      have := congrArg List.length e
      simp at this
      omega
    obtain ⟨x, hx⟩ : ∃ x, x = xs.getD k 0 := ⟨_, rfl⟩
    have hxk : xs[((k : Nat) : Int).toNat]? = some x := by rw [hx, List.getD_eq_getElem?_getD, Int.toNat_natCast, List.getElem?_eq_getElem (by omega)]; rfl
    obtain ⟨ds, hds⟩ : ∃ ds, ds = pre.foldl (drawOne xs) [] := ⟨_, rfl⟩
    have hlen : ds.length ≤ 3780 := by
      rw [hds]
      have := draws_len xs pre []
      simp at this
      omega
    have hE : (pre ++ [k]).foldl (drawOne xs) [] = drawOne xs ds k := by rw [List.foldl_append, hds]; rfl
    show ∃ T ρ1, EvG _ T [.b (pu (scR K xs)), .o (oL ((pre.foldl (drawOne xs) []).map .int)), .x, .x, .x, .x] _ ρ1 ∧ Ex _ _ ρ1 (.go [.b (pu (scR K xs)), .o (oL (((pre ++ [k]).foldl (drawOne xs) []).map .int)), .x, .x, .x, .x])
    rw [hE, ← hds]
    refine ⟨[2], _, eg_name, ?_⟩
    refine Ex.seq (Ex.set (i := 3) (R := dI (absI x)) (Ev.is (by walk_at "ze") (by rfl))) ?_
    refine Ex.ife (b := decide ((10 : Int) ^ 18 ≤ absI x)) (EvT.is (by walk_at "zt") (by rfl)) (fun c => ?_) (fun c => ?_)
    · have c : (10 : Int) ^ 18 ≤ absI x := of_decide_eq_true c
      have hE2 : drawOne xs ds k = ((List.range 60).foldl (fun s _ => dig s) (absI x, ds)).2 := by unfold drawOne; rw [← hx, if_pos c]
      rw [hE2]
      refine Ex.go (Ex.out (.k (.k (.x (.x (.x (.x .nil)))))) (Ex.for_ (K := K) (xs := List.range 60) (en := fun (k : Nat) => .int (k : Int)) (fun p2 => [.b (pu (scR K xs)), .o (oL ((p2.foldl (fun s _ => dig s) (absI x, ds)).2.map .int)), .p (dI (k : Int)), .p (dI (p2.foldl (fun s _ => dig s) (absI x, ds)).1), .x, .x]) (ei_rangeT (n := 60) (by walk_at "za") (by decide) (by decide)) (Wk.refl _) ?_))
      intro p2 j post2 e2
      have hp2 : p2.length ≤ 60 := by
        have := congrArg List.length e2
        simp at this
        omega
      obtain ⟨⟨r, l⟩, hs⟩ : ∃ s, s = p2.foldl (fun s _ => dig s) (absI x, ds) := ⟨_, rfl⟩
      have hl2 : l.length ≤ 3840 := by
        have := digs_len p2 (absI x, ds)
        rw [← hs] at this
        have : l.length ≤ ds.length + p2.length := this
        omega
      have hE3 : (p2 ++ [j]).foldl (fun s _ => dig s) (absI x, ds) = dig (r, l) := by rw [List.foldl_append, ← hs]; rfl
      show ∃ T ρ1, EvG _ T [.b (pu (scR K xs)), .o (oL ((p2.foldl (fun s _ => dig s) (absI x, ds)).2.map .int)), .p (dI (k : Int)), .p (dI (p2.foldl (fun s _ => dig s) (absI x, ds)).1), .x, .x] _ ρ1 ∧ Ex _ _ ρ1 (.go [.b (pu (scR K xs)), .o (oL (((p2 ++ [j]).foldl (fun s _ => dig s) (absI x, ds)).2.map .int)), .p (dI (k : Int)), .p (dI ((p2 ++ [j]).foldl (fun s _ => dig s) (absI x, ds)).1), .x, .x])
      rw [hE3, ← hs]
      refine ⟨[4], _, eg_name, ?_⟩
      refine Ex.ife (b := decide (0 < r)) (EvT.is (by walk_at "zt") (by rfl)) (fun c2 => ?_) (fun c2 => ?_)
      · rw [show dig (r, l) = (r / 65536, l ++ [r % 65536]) from if_pos (of_decide_eq_true c2)]
        refine Ex.go (Ex.out (ρ' := [.b (pu (scR K xs)), .o (oL ((l ++ [r % 65536]).map .int)), .p (dI (k : Int)), .p (dI (r / 65536)), .p (dI (j : Int)), .x]) (.k (.k (.k (.k (.x (.x .nil)))))) ?_)
        refine Ex.seq (Ex.append (i := 1) (ds := l.map .int) (d := .int (r % 65536)) rfl (by walk_at "ze") (by rw [List.length_map]; omega) rfl) ?_
        exact Ex.is (Ex.set (i := 3) (R := dI (r / 65536)) (by walk_at "ze")) (by rw [List.map_append]; rfl)
      · rw [show dig (r, l) = (r, l) from if_neg (of_decide_eq_false c2)]
        exact Ex.go (Ex.out (.k (.k (.k (.k (.x (.x .nil)))))) Ex.next)
    · have c : ¬ (10 : Int) ^ 18 ≤ absI x := of_decide_eq_false c
      have hE2 : drawOne xs ds k = (ds ++ [mixA (absI x) k % 65536]) ++ [mixA (absI x) k / 65536 % 32768] := by unfold drawOne; rw [← hx, if_neg c]
      rw [hE2]
      refine Ex.seq (Ex.set (i := 5) (by walk_at "ze")) ?_
      refine Ex.seq (Ex.set (i := 5) (R := dI (mixA (absI x) k)) (Ev.is (by walk_at "ze") (by rfl))) ?_
      refine Ex.go (Ex.out (ρ' := [.b (pu (scR K xs)), .o (oL (((ds ++ [mixA (absI x) k % 65536]) ++ [mixA (absI x) k / 65536 % 32768]).map .int)), .p (dI (k : Int)), .p (dI (absI x)), .x, .p (dI (mixA (absI x) k))]) (.k (.k (.x (.x (.x (.x .nil)))))) ?_)
      refine Ex.seq (Ex.append (i := 1) (ds := ds.map .int) (d := .int (mixA (absI x) k % 65536)) rfl (by walk_at "ze") (by rw [List.length_map]; omega) rfl) ?_
      exact Ex.is (Ex.append (i := 1) (ds := ds.map .int ++ [.int (mixA (absI x) k % 65536)]) (d := .int (mixA (absI x) k / 65536 % 32768)) rfl (by walk_at "ze") (by rw [List.length_append, List.length_map]; show ds.length + 1 < _; omega) rfl) (by rw [List.map_append, List.map_append]; rfl)
  · exact Ex.is (Ex.retOv rfl) (by rfl)

end
end Q

set_option Elab.async false
set_option linter.all false
set_option maxRecDepth 100000
set_option maxHeartbeats 4000000
namespace Q
open PySem PySem.Spec PyProof.Rows L2 Z
local macro_rules | `(tactic| walk_at "zo") => `(tactic| first
  | with_reducible exact o_int0 | with_reducible exact o_bool0 | exact o_eqI | exact o_neI
  | exact o_intC (by assumption) | exact o_intC (by show (0 : Int) < _; omega) | exact o_intC ⟨by omega, by omega⟩ | exact o_intC (Or.inr ⟨by omega, by omega⟩) | exact o_intC (Or.inl ⟨by omega, by omega⟩) | exact o_intC ⟨by decide, by decide, by decide⟩
  | exact o_ixL (by assumption) | exact Op2.l (o_ixL (by assumption)) | exact o_ixT rfl | exact o_inT2 | exact o_inT | exact o_inL | exact Op2.r o_inL | exact o_notInL | exact Op2.r o_notInL | exact o_isN | exact o_notN)
local macro_rules | `(tactic| walk_at "zc") => `(tactic| first
  | exact cl_len | exact cl_lenP | exact cl_int | exact cl_abs | exact cl_min2 | exact cl_max2 | exact cl_intB | exact cl_sum | exact cl_any | exact cl_all)
local macro_rules | `(tactic| walk_at "za") => `(tactic| first
  | with_reducible exact ea_nil | with_reducible exact ed_nil
  | ((with_reducible refine' ed_cons ?z1 ?z2); (case z1 => walk_at "ze"); (case z2 => walk_at "za"))
  | ((with_reducible refine' ea_cons ?z1 ?z2); (case z1 => walk_at "ze"); (case z2 => walk_at "za")))
local macro_rules | `(tactic| walk_at "ze") => `(tactic| first
  | with_reducible assumption
  | with_reducible exact ev_int | with_reducible exact ev_bl | with_reducible exact ev_non | with_reducible exact ev_str
  | ((with_reducible refine' ev_b ?z1); (case z1 => rfl)) | ((with_reducible refine' ev_var ?z1); (case z1 => rfl)) | ((with_reducible refine' ev_o ?z1); (case z1 => rfl))
  | ((with_reducible refine' ev_op ?z1 ?z2 ?z3); (case z1 => walk_at "ze"); (case z2 => walk_at "ze"); (case z3 => walk_at "zo"))
  | ((with_reducible refine' ev_chain ?z1 ?z2 ?z3 ?z4 ?z5); (case z1 => walk_at "ze"); (case z2 => walk_at "ze"); (case z4 => walk_at "zo"); (case z3 => intro _; walk_at "ze"); (case z5 => intro _; walk_at "zo"))
  | ((with_reducible refine' ev_andV ?z1 ?z2); (case z1 => walk_at "ze"); (case z2 => intro _; walk_at "ze"))
  | ((with_reducible refine' ev_orV ?z1 ?z2); (case z1 => walk_at "ze"); (case z2 => intro _; walk_at "ze"))
  | ((with_reducible refine' ev_notV ?z1); (case z1 => walk_at "ze"))
  | ((with_reducible refine' ev_neg ?z1); (case z1 => walk_at "ze"))
  | ((with_reducible refine' ev_tupD ?z1 ?z2); (case z1 => walk_at "za"); (case z2 => exact Nat.le_of_ble_eq_true rfl))
  | ((with_reducible refine' ev_cb ?z1 ?z2); (case z1 => walk_at "za"); (case z2 => walk_at "zc"))
  | ((with_reducible refine' EvN.ev ?z1); (case z1 => walk_at "zn"))
  | walk_at "zf")
local macro_rules | `(tactic| walk_at "zb") => `(tactic| first
  | with_reducible assumption
  | ((with_reducible refine' ev_b ?z1); (case z1 => rfl)) | ((with_reducible refine' ev_o ?z1); (case z1 => rfl))
  | ((with_reducible refine' Ev.bl ?z1); (case z1 => walk_at "ze")))
local macro_rules | `(tactic| walk_at "zn") => `(tactic| first
  | with_reducible assumption
  | ((with_reducible refine' en_lstD ?z1 ?z2); (case z1 => walk_at "za"); (case z2 => exact Nat.le_of_ble_eq_true rfl))
  | ((with_reducible refine' en_cb ?z1 ?z2); (case z1 => walk_at "za"); (case z2 => first | exact cl_list | exact cl_listP)))
local macro_rules | `(tactic| walk_at "zt") => `(tactic| first
  | with_reducible assumption
  | ((with_reducible refine' et_test ?z1); (case z1 => walk_at "ze"))
  | ((with_reducible refine' et_B ?z1); (case z1 => walk_at "ze"))
  | ((with_reducible refine' et_and ?z1 ?z2); (case z1 => walk_at "zt"); (case z2 => intro _; walk_at "zt"))
  | ((with_reducible refine' et_or ?z1 ?z2); (case z1 => walk_at "zt"); (case z2 => intro _; walk_at "zt"))
  | ((with_reducible refine' et_not ?z1); (case z1 => walk_at "zt")))
local macro_rules | `(tactic| walk_at "zf") => `(tactic| first
  | ((with_reducible refine' c_is_size ?z1); (case z1 => walk_at "ze"))
  | ((with_reducible refine' c_is_price ?z1); (case z1 => walk_at "ze"))
  | ((with_reducible refine' c_are_ends ?z1 ?z2 ?z3); (case z1 => walk_at "ze"); (case z2 => walk_at "ze"); (case z3 => walk_at "ze"))
  | ((with_reducible refine' c_mix ?z0 ?z1 ?z2 ?z3); (case z1 => walk_at "zb"); (case z2 => walk_at "ze"); (case z3 => walk_at "ze"); (case z0 => first | assumption | omega | decide))
  | ((with_reducible refine' fld_size (by assumption) ?z1); (case z1 => walk_at "ze"))
  | ((with_reducible refine' fld_edges (by assumption) ?z1); (case z1 => walk_at "ze")))
local macro_rules | `(tactic| walk_at "zc") => `(tactic| exact cl_lenS)
local macro_rules | `(tactic| walk_at "zo") => `(tactic| exact o_ixS (by omega) (by assumption))
section
variable {P : Program} {w : World} {K : PySem.W.Frag} {mg : Str → Option Value} {base : Heap}
theorem ok_law_network (T : Tx K mg) : FnOk P w K mg base (L2.CX P w) 2 T.f_law_network T.fd_law_network ["draws", "k", "sizes", "many", "top"] (sp_law_network T) := by
  refine T.F_law_network.okX sc_law_network (SpA.len fun _ => rfl) (fun cdv A outer s H vs Q E hr h => ⟨_, (pss_cons (ps_set (i := 5) sc_law_network.nd rfl (by first | exact Or.inl rfl | exact Or.inr rfl) (pe_op op_add pe_int (pe_call (ok_law_mix T) (hr.mono (by decide)) (by rfl) T.g_law_mix T.F_law_mix.kp T.b_law_mix .nil (passes_call (takes_of rfl rfl rfl rfl) fun _ _ _ _ z => z) (pa_cons (pv 0) (pa_cons (pv 1) (pa_cons (pv 2) pa_nil))))))
      (pss_cons (ps_set (i := 6) sc_law_network.nd rfl (by first | exact Or.inl rfl | exact Or.inr rfl) (pe_lst pa_nil))
      (pss_cons (ps_if (pt_cmpR op_gt (pv 5) pe_int (nomark _))
        (pss_one (ps_for (passes_of rfl) rfl (pi_range1 (by rfl) T.z_range (pa_cons (pe_call (ok_law_mix T) (hr.mono (by decide)) (by rfl) T.g_law_mix T.F_law_mix.kp T.b_law_mix .nil (passes_call (takes_of rfl rfl rfl rfl) fun _ _ _ _ z => z) (pa_cons (pv 0) (pa_cons (pe_op op_add (pv 1) pe_int) (pa_cons (pe_op op_add (pv 3) pe_int) pa_nil)))) pa_nil)) (pg_name (i := 7) sc_law_network.nd rfl (by first | exact Or.inl rfl | exact Or.inr rfl))
        (pss_cons (ps_set (i := 8) sc_law_network.nd rfl (by first | exact Or.inl rfl | exact Or.inr rfl) (pe_call (ok_law_mix T) (hr.mono (by decide)) (by rfl) T.g_law_mix T.F_law_mix.kp T.b_law_mix .nil (passes_call (takes_of rfl rfl rfl rfl) fun _ _ _ _ z => z) (pa_cons (pv 0) (pa_cons (pe_op op_add (pe_op op_add (pv 1) pe_int) (pe_op op_mul pe_int (pv 7))) (pa_cons (pv 5) pa_nil)))))
      (pss_cons (ps_set (i := 9) sc_law_network.nd rfl (by first | exact Or.inl rfl | exact Or.inr rfl) (pe_op op_mod (pe_callTy call_int1 (by rfl) T.z_int (by decide +kernel) (pa_cons (pe_op op_add (pe_op op_add (pv 8) pe_int) (pe_call (ok_law_mix T) (hr.mono (by decide)) (by rfl) T.g_law_mix T.F_law_mix.kp T.b_law_mix .nil (passes_call (takes_of rfl rfl rfl rfl) fun _ _ _ _ z => z) (pa_cons (pv 0) (pa_cons (pe_op op_add (pe_op op_add (pv 1) pe_int) (pe_op op_mul pe_int (pv 7))) (pa_cons (pe_op op_sub (pv 5) pe_int) pa_nil))))) pa_nil)) (pv 5)))
      (pss_one (ps_expr (pe_bm PySem.F.plainAttrs_list PySem.F.slot_list_append PySem.F.type_list_append mt_append (pv 6) (pa_cons (pe_tup (pa_cons (pv 8) (pa_cons (pv 9) (pa_cons (pe_call (ok_law_mix T) (hr.mono (by decide)) (by rfl) T.g_law_mix T.F_law_mix.kp T.b_law_mix .nil (passes_call (takes_of rfl rfl rfl rfl) fun _ _ _ _ z => z) (pa_cons (pv 0) (pa_cons (pe_op op_add (pe_op op_add (pv 1) pe_int) (pe_op op_mul pe_int (pv 7))) (pa_cons (pv 4) pa_nil)))) pa_nil)))) pa_nil))))))))
        pss_nil)
      (pss_one (ps_ret (pe_tup (pa_cons (pv 5) (pa_cons (pv 6) pa_nil)))))))), ?_⟩)
  refine SpA.go h N_law_network 5 (fun _ => rfl) ?_
  rintro ⟨ds, k, sizes, many, top⟩ ⟨h1, h2, h3, h4⟩
  have h1 : 0 < sizes := h1
  have h2 : 0 ≤ many := h2
  have h3 : many ≤ 1000 := h3
  have h4 : 0 < top := h4
  obtain ⟨n, hn⟩ : ∃ n, n = sizeN ds k sizes := ⟨_, rfl⟩
  have hn1 : 1 ≤ n := by
    rw [hn]
    unfold sizeN
    have := mix_bd (ds := ds) (k := k) h1
    omega
  have m2 := mix_bd (ds := ds) (k := k + 1) (many := many + 1) (by omega)
  refine ⟨.own (oPair n ((edgesN ds k n many top).map eE)), [.b (bL (ds.map .int)), .b (pu (dI k)), .b (pu (dI sizes)), .b (pu (dI many)), .b (pu (dI top)), .p (dI n), .o (oL ((edgesN ds k n many top).map eE)), .x, .x, .x], by rw [hn], ?_⟩
  refine Ex.seq (Ex.set (i := 5) (R := dI n) (Ev.is (by walk_at "ze") (by rw [hn]; rfl))) ?_
  refine Ex.seq (Ex.setN (i := 6) (ds := []) (by walk_at "zn") (by show 6 < 10; decide)) ?_
  refine Ex.seq (ρ1 := [.b (bL (ds.map .int)), .b (pu (dI k)), .b (pu (dI sizes)), .b (pu (dI many)), .b (pu (dI top)), .p (dI n), .o (oL ((edgesN ds k n many top).map eE)), .x, .x, .x]) (Ex.ife (b := decide (1 < n)) (EvT.is (by walk_at "zt") (by rfl)) (fun c => ?_) (fun c => ?_)) ?_
  · have c : 1 < n := of_decide_eq_true c
    have he : edgesN ds k n many top = (List.range (mix ds (k + 1) (many + 1)).toNat).map (edgeN ds k n top) := if_pos c
    rw [he]
    refine Ex.for_ (K := K) (xs := List.range (mix ds (k + 1) (many + 1)).toNat) (en := fun (k : Nat) => .int (k : Int)) (fun pre => [.b (bL (ds.map .int)), .b (pu (dI k)), .b (pu (dI sizes)), .b (pu (dI many)), .b (pu (dI top)), .p (dI n), .o (oL ((pre.map (edgeN ds k n top)).map eE)), .x, .x, .x]) (ei_rangeT (by walk_at "za") (by omega) (by omega)) (Wk.refl _) ?_
    intro pre j post e
    have hp : pre.length ≤ 1001 := by
      have := congrArg List.length e
      simp at this
      omega
    refine ⟨[7], _, eg_name, ?_⟩
    refine Ex.seq (Ex.set (i := 8) (R := dI (edgeN ds k n top j).1) (Ev.is (by walk_at "ze") (by rfl))) ?_
    refine Ex.seq (Ex.set (i := 9) (R := dI (edgeN ds k n top j).2.1) (Ev.is (by walk_at "ze") (by rfl))) ?_
    refine Ex.go (Ex.out (ρ' := [.b (bL (ds.map .int)), .b (pu (dI k)), .b (pu (dI sizes)), .b (pu (dI many)), .b (pu (dI top)), .p (dI n), .o (oL (((pre ++ [j]).map (edgeN ds k n top)).map eE)), .p (dI (j : Int)), .p (dI (edgeN ds k n top j).1), .p (dI (edgeN ds k n top j).2.1)]) (.k (.k (.k (.k (.k (.k (.k (.x (.x (.x .nil)))))))))) ?_)
    exact Ex.is (Ex.append (i := 6) (ds := (pre.map (edgeN ds k n top)).map eE) (d := eE (edgeN ds k n top j)) rfl (Ev.is (by walk_at "ze") (by rfl)) (by rw [List.length_map, List.length_map]; omega) rfl) (by rw [List.map_append, List.map_append]; rfl)
  · rw [show edgesN ds k n many top = [] from if_neg (of_decide_eq_false c)]
    exact Ex.next
  · exact Ex.retPair rfl rfl

theorem ok_law_made (T : Tx K mg) : FnOk P w K mg base (L2.CX P w) 5 T.f_law_made T.fd_law_made ["size", "edges"] (sp_law_made T) := by
  refine T.F_law_made.okX sc_law_made (SpA.len fun _ => rfl) (fun cdv A outer s H vs Q E hr h => ⟨_, (pss_cons (ps_try_as (i := 2) rfl rfl sc_law_made.nd rfl rfl ⟨rfl, by decide, .inl T.x_WebError.2.2.2.2⟩ (takes_of rfl rfl rfl rfl) (fun W pn xe tk hpx => (pss_one (ps_expr (pe_makeS T.mk_Network (ok_Network___init__ T) (hr.mono (by decide)) (by rfl) T.g_Network T.b_Network___init__ (fun σ => passAt tk σ) (pa_cons (pv 0) (pa_cons (pv 1) pa_nil))))))
        (fun a oe cls d pn hz hf => (pss_cons (ps_set (i := 3) sc_law_made.nd rfl (by first | exact Or.inl rfl | exact Or.inr rfl) (pe_lst (pa_cons (pe_callB (call_isX hz hf) (by rfl) T.z_isinstance (by decide +kernel) (pa_cons (pv 2) (pa_cons (pe_glob (v := .ref T.c_OutOfRange) (by rfl) T.x_OutOfRange.2.2.2.2 rfl) pa_nil))) (pa_cons (pe_callB (call_isX hz hf) (by rfl) T.z_isinstance (by decide +kernel) (pa_cons (pv 2) (pa_cons (pe_glob (v := .ref T.c_TooMany) (by rfl) T.x_TooMany.2.2.2.2 rfl) pa_nil))) (pa_cons (pe_callB (call_isX hz hf) (by rfl) T.z_isinstance (by decide +kernel) (pa_cons (pv 2) (pa_cons (pe_glob (v := .ref T.c_BadVertex) (by rfl) T.x_BadVertex.2.2.2.2 rfl) pa_nil))) pa_nil)))))
      (pss_one (ps_ret (pe_tup (pa_cons (pe_op op_cat (pv 3) (pe_lst (pa_cons (pe_callB (call_isX hz hf) (by rfl) T.z_isinstance (by decide +kernel) (pa_cons (pv 2) (pa_cons (pe_glob (v := .ref T.c_BadPrice) (by rfl) T.x_BadPrice.2.2.2.2 rfl) pa_nil))) pa_nil))) (pa_cons (pe_xg hz hf (pv 2)) pa_nil))))))))
      (pss_one (ps_ret pe_non))), ?_⟩)
  refine SpA.go h N_law_made 2 (fun _ => rfl) ?_
  rintro ⟨n, es⟩ -
  cases hN : netErr n es with
  | none =>
    refine ⟨.ok (dat .none), [.b (pu (dI n)), .b (bL (es.map eE)), .x, .x], by show Res.ok (dat (madeD n es)) = _; rw [madeD_ok hN], ?_⟩
    exact Ex.seq (Ex.try_ok (fun W => Ex.drop (ev_makeS (F := netI T) (n, es) (ea_cons (ev_b rfl) (ea_cons (ev_b rfl) ea_nil)) trivial (netI_ok T hN))) rfl) (Ex.ret ev_non)
  | some ka =>
    obtain ⟨k, a⟩ := ka
    have hk := T.ek k
    refine ⟨.ok (dat (.tuple [kindsM k, .int a])), [], by show Res.ok (dat (madeD n es)) = _; rw [madeD_err hN], ?_⟩
    refine Ex.seqE (o := .rt (dat (.tuple [kindsM k, .int a]))) (Ex.try_x (o := .rt (dat (.tuple [kindsM k, .int a]))) (C := T.cls k) (n := a) (fun W => Ex.dropX (ex_makeS (F := netI T) (n, es) (ea_cons (ev_b rfl) (ea_cons (ev_b rfl) ea_nil)) trivial (netI_err T hN))) (T.emk k) (fun b d => ?_)) rfl
    refine Ex.seq (Ex.setN (i := 3) (ds := [.bool (decide (k = .oor)), .bool (decide (k = .tm)), .bool (decide (k = .bv))]) (en_lstD (ed_cons (ev_isX rfl hk.1 (T.isk k .oor)) (ed_cons (ev_isX rfl hk.1 (T.isk k .tm)) (ed_cons (ev_isX rfl hk.1 (T.isk k .bv)) ed_nil))) (Nat.le_of_ble_eq_true rfl)) (by show 3 < 4; decide)) ?_
    exact Ex.ret (ev_tupD (ed_cons (EvN.ev (ev_opN (ev_o rfl) (Ev.bl (EvN.ev (en_lstD (ed_cons (ev_isX rfl hk.1 (T.isk k .bp)) ed_nil) (Nat.le_of_ble_eq_true rfl)))) (o_cat (Nat.le_of_ble_eq_true rfl)))) (ed_cons (ev_at rfl hk.2.1 hk.2.2) ed_nil)) (Nat.le_of_ble_eq_true rfl))

end
end Q

set_option Elab.async false
set_option linter.all false
set_option maxRecDepth 100000
set_option maxHeartbeats 4000000
namespace Q
open PySem PySem.Spec PyProof.Rows L2 Z
local macro_rules | `(tactic| walk_at "zo") => `(tactic| first
  | with_reducible exact o_int0 | with_reducible exact o_bool0 | exact o_eqI | exact o_neI
  | exact o_intC (by assumption) | exact o_intC (by show (0 : Int) < _; omega) | exact o_intC ⟨by omega, by omega⟩ | exact o_intC (Or.inr ⟨by omega, by omega⟩) | exact o_intC (Or.inl ⟨by omega, by omega⟩) | exact o_intC ⟨by decide, by decide, by decide⟩
  | exact o_ixL (by assumption) | exact Op2.l (o_ixL (by assumption)) | exact o_ixT rfl | exact o_inT2 | exact o_inT | exact o_inL | exact Op2.r o_inL | exact o_notInL | exact Op2.r o_notInL | exact o_isN | exact o_notN)
local macro_rules | `(tactic| walk_at "zc") => `(tactic| first
  | exact cl_len | exact cl_lenP | exact cl_int | exact cl_abs | exact cl_min2 | exact cl_max2 | exact cl_intB | exact cl_sum | exact cl_any | exact cl_all)
local macro_rules | `(tactic| walk_at "za") => `(tactic| first
  | with_reducible exact ea_nil | with_reducible exact ed_nil
  | ((with_reducible refine' ed_cons ?z1 ?z2); (case z1 => walk_at "ze"); (case z2 => walk_at "za"))
  | ((with_reducible refine' ea_cons ?z1 ?z2); (case z1 => walk_at "ze"); (case z2 => walk_at "za")))
local macro_rules | `(tactic| walk_at "ze") => `(tactic| first
  | with_reducible assumption
  | with_reducible exact ev_int | with_reducible exact ev_bl | with_reducible exact ev_non | with_reducible exact ev_str
  | ((with_reducible refine' ev_b ?z1); (case z1 => rfl)) | ((with_reducible refine' ev_var ?z1); (case z1 => rfl)) | ((with_reducible refine' ev_o ?z1); (case z1 => rfl))
  | ((with_reducible refine' ev_op ?z1 ?z2 ?z3); (case z1 => walk_at "ze"); (case z2 => walk_at "ze"); (case z3 => walk_at "zo"))
  | ((with_reducible refine' ev_chain ?z1 ?z2 ?z3 ?z4 ?z5); (case z1 => walk_at "ze"); (case z2 => walk_at "ze"); (case z4 => walk_at "zo"); (case z3 => intro _; walk_at "ze"); (case z5 => intro _; walk_at "zo"))
  | ((with_reducible refine' ev_andV ?z1 ?z2); (case z1 => walk_at "ze"); (case z2 => intro _; walk_at "ze"))
  | ((with_reducible refine' ev_orV ?z1 ?z2); (case z1 => walk_at "ze"); (case z2 => intro _; walk_at "ze"))
  | ((with_reducible refine' ev_notV ?z1); (case z1 => walk_at "ze"))
  | ((with_reducible refine' ev_neg ?z1); (case z1 => walk_at "ze"))
  | ((with_reducible refine' ev_tupD ?z1 ?z2); (case z1 => walk_at "za"); (case z2 => exact Nat.le_of_ble_eq_true rfl))
  | ((with_reducible refine' ev_cb ?z1 ?z2); (case z1 => walk_at "za"); (case z2 => walk_at "zc"))
  | ((with_reducible refine' EvN.ev ?z1); (case z1 => walk_at "zn"))
  | walk_at "zf")
local macro_rules | `(tactic| walk_at "zb") => `(tactic| first
  | with_reducible assumption
  | ((with_reducible refine' ev_b ?z1); (case z1 => rfl)) | ((with_reducible refine' ev_o ?z1); (case z1 => rfl))
  | ((with_reducible refine' Ev.bl ?z1); (case z1 => walk_at "ze")))
local macro_rules | `(tactic| walk_at "zn") => `(tactic| first
  | with_reducible assumption
  | ((with_reducible refine' en_lstD ?z1 ?z2); (case z1 => walk_at "za"); (case z2 => exact Nat.le_of_ble_eq_true rfl))
  | ((with_reducible refine' en_cb ?z1 ?z2); (case z1 => walk_at "za"); (case z2 => first | exact cl_list | exact cl_listP)))
local macro_rules | `(tactic| walk_at "zt") => `(tactic| first
  | with_reducible assumption
  | ((with_reducible refine' et_test ?z1); (case z1 => walk_at "ze"))
  | ((with_reducible refine' et_B ?z1); (case z1 => walk_at "ze"))
  | ((with_reducible refine' et_and ?z1 ?z2); (case z1 => walk_at "zt"); (case z2 => intro _; walk_at "zt"))
  | ((with_reducible refine' et_or ?z1 ?z2); (case z1 => walk_at "zt"); (case z2 => intro _; walk_at "zt"))
  | ((with_reducible refine' et_not ?z1); (case z1 => walk_at "zt")))
local macro_rules | `(tactic| walk_at "zf") => `(tactic| first
  | ((with_reducible refine' c_is_size ?z1); (case z1 => walk_at "ze"))
  | ((with_reducible refine' c_is_price ?z1); (case z1 => walk_at "ze"))
  | ((with_reducible refine' c_are_ends ?z1 ?z2 ?z3); (case z1 => walk_at "ze"); (case z2 => walk_at "ze"); (case z3 => walk_at "ze"))
  | ((with_reducible refine' c_mix ?z0 ?z1 ?z2 ?z3); (case z1 => walk_at "zb"); (case z2 => walk_at "ze"); (case z3 => walk_at "ze"); (case z0 => first | assumption | omega | decide))
  | ((with_reducible refine' fld_size (by assumption) ?z1); (case z1 => walk_at "ze"))
  | ((with_reducible refine' fld_edges (by assumption) ?z1); (case z1 => walk_at "ze")))
local macro_rules | `(tactic| walk_at "zc") => `(tactic| exact cl_lenS)
local macro_rules | `(tactic| walk_at "zo") => `(tactic| exact o_ixS (by omega) (by assumption))
section
variable {P : Program} {w : World} {K : PySem.W.Frag} {mg : Str → Option Value} {base : Heap}
theorem ok_law_due (T : Tx K mg) : FnOk P w K mg base (L2.CX P w) 1 T.f_law_due T.fd_law_due ["size", "edges"] (sp_law_due T) := by
  refine T.F_law_due.okX sc_law_due (SpA.len fun _ => rfl) (fun cdv A outer s H vs Q E hr h => ⟨_, (pss_cons (ps_if (pt_not (pt_chain op_le op_le pe_int (pv 0) pe_int))
        (pss_one (ps_ret (pe_tup (pa_cons (pe_lst (pa_cons pe_bl (pa_cons pe_bl (pa_cons pe_bl (pa_cons pe_bl pa_nil))))) (pa_cons (pv 0) pa_nil)))))
        pss_nil)
      (pss_cons (ps_if (pt_cmpR op_gt (pe_callB (kcall_len K) (by rfl) T.z_len PySem.boot_len (pa_cons (pv 1) pa_nil)) pe_int (nomark _))
        (pss_one (ps_ret (pe_tup (pa_cons (pe_lst (pa_cons pe_bl (pa_cons pe_bl (pa_cons pe_bl (pa_cons pe_bl pa_nil))))) (pa_cons (pe_callB (kcall_len K) (by rfl) T.z_len PySem.boot_len (pa_cons (pv 1) pa_nil)) pa_nil)))))
        pss_nil)
      (pss_cons (ps_for (passes_of rfl) rfl (pi_range1 (by rfl) T.z_range (pa_cons (pe_callB (kcall_len K) (by rfl) T.z_len PySem.boot_len (pa_cons (pv 1) pa_nil)) pa_nil)) (pg_name (i := 2) sc_law_due.nd rfl (by first | exact Or.inl rfl | exact Or.inr rfl))
        (pss_cons (ps_asg (pe_ix (kix_list K) (pv 1) (pv 2) (fun _ _ => rfl)) (kpg_tup K (n := 3) rfl (pgs_cons (pg_name (i := 3) sc_law_due.nd rfl (by first | exact Or.inl rfl | exact Or.inr rfl)) (pgs_cons (pg_name (i := 4) sc_law_due.nd rfl (by first | exact Or.inl rfl | exact Or.inr rfl)) (pgs_cons (pg_name (i := 5) sc_law_due.nd rfl (by first | exact Or.inl rfl | exact Or.inr rfl)) pgs_nil)))))
      (pss_cons (ps_if (PW.pt (pw_or (pt_not (pt_chain op_le op_lt pe_int (pv 3) (pv 0))) (pw_or (pt_not (pt_chain op_le op_lt pe_int (pv 4) (pv 0))) (pw_or1 (pt_cmpR op_eq (pv 3) (pv 4) (nomark _))))))
        (pss_one (ps_ret (pe_tup (pa_cons (pe_lst (pa_cons pe_bl (pa_cons pe_bl (pa_cons pe_bl (pa_cons pe_bl pa_nil))))) (pa_cons (pv 2) pa_nil)))))
        pss_nil)
      (pss_one (ps_if (pt_not (pt_chain op_le op_le pe_int (pv 5) pe_int))
        (pss_one (ps_ret (pe_tup (pa_cons (pe_lst (pa_cons pe_bl (pa_cons pe_bl (pa_cons pe_bl (pa_cons pe_bl pa_nil))))) (pa_cons (pv 2) pa_nil)))))
        pss_nil)))))
      (pss_one (ps_ret pe_non))))), ?_⟩)
  refine SpA.go h N_law_due 2 (fun _ => rfl) ?_
  rintro ⟨n, es⟩ -
  let ρ0 : List Sl := [.b (pu (dI n)), .b (bL (es.map eE)), .x, .x, .x, .x]
  have hl : (((es.map eE).length : Nat) : Int) = (es.length : Int) := by rw [List.length_map]
  by_cases c1 : isSize n = true
  case neg =>
    refine ⟨.ok (dat (.tuple [kindsM .oor, .int n])), [], by show Res.ok (dat (madeD n es)) = _; rw [madeD_err (show netErr n es = some (.oor, n) from if_neg c1)], ?_⟩
    refine Ex.ite (b := !(isSize n)) (EvT.is (by walk_at "zt") (by rfl)) (fun z => ?_) (fun z => ?_)
    · exact Ex.seqE (Ex.is (Ex.ret (by walk_at "ze")) (by rfl)) rfl
    · exact absurd (by simpa using z) c1
  case pos =>
    have e0 : netErr n es = if 200 < (es.length : Int) then some (.tm, (es.length : Int)) else firstBad n es.zipIdx := if_pos c1
    by_cases c2 : 200 < (es.length : Int)
    case pos =>
      refine ⟨.ok (dat (.tuple [kindsM .tm, .int es.length])), [], by show Res.ok (dat (madeD n es)) = _; rw [madeD_err (e0.trans (if_pos c2))], ?_⟩
      refine Ex.ite (b := !(isSize n)) (EvT.is (by walk_at "zt") (by rfl)) (fun z => by rw [c1] at z; cases z) (fun _ => Ex.skip ?_)
      refine Ex.ite (b := decide ((200 : Int) < (es.map eE).length)) (by walk_at "zt") (fun z => ?_) (fun z => ?_)
      · rw [← hl]
        exact Ex.seqE (Ex.is (Ex.ret (by walk_at "ze")) (by rfl)) rfl
      · exact absurd c2 (by rw [← hl]; exact of_decide_eq_false z)
    case neg =>
      -- the loop over the edges
      have loop := Ex.forF (K := K) (W := WofE E) (S := Unit) (ρ := ρ0) (wi := iRng1 (tCons (tCB (cLen K) (tCons (tVar 1) tNil)) tNil)) (xs := es.zipIdx) (en := fun p : E3 × Nat => .int (p.2 : Int)) (T := []) (s0 := ()) (g := gName 2)
        (tb := tSeq (tAsg (tOp (rIxL K) (tVar 1) (tVar 2)) (gTup K 3 (gCons (gName 3) (gCons (gName 4) (gCons (gName 5) gNil))))) (tSeq (tIfS (tOr (tNot (tTest (tChain (rI0 fun i j => V.bl (decide (i ≤ j))) (rI0 fun i j => V.bl (decide (i < j))) (tC (V.int 0)) (tVar 3) (tVar 0)))) (tOr (tNot (tTest (tChain (rI0 fun i j => V.bl (decide (i ≤ j))) (rI0 fun i j => V.bl (decide (i < j))) (tC (V.int 0)) (tVar 4) (tVar 0)))) (tTest (tOp rEq (tVar 3) (tVar 4))))) (tRet (tTup (tCons (tLst (tCons (tC (V.bl false)) (tCons (tC (V.bl false)) (tCons (tC (V.bl true)) (tCons (tC (V.bl false)) tNil))))) (tCons (tVar 2) tNil)))) tNext) (tIfS (tNot (tTest (tChain (rI0 fun i j => V.bl (decide (i ≤ j))) (rI0 fun i j => V.bl (decide (i ≤ j))) (tC (V.int 0)) (tVar 5) (tC (V.int 1048576))))) (tRet (tTup (tCons (tLst (tCons (tC (V.bl false)) (tCons (tC (V.bl false)) (tCons (tC (V.bl false)) (tCons (tC (V.bl true)) tNil))))) (tCons (tVar 2) tNil)))) tNext)))
        (fun _ => ρ0)
        (fun _ p => match badEdge n p.1 with | some k => .inr (.rt (dat (.tuple [kindsM k, .int (p.2 : Int)]))) | none => .inl ())
        ?hi (Wk.refl _) (fun pre p post s e r => ⟨fun o ho => (by
            split at ho
            · cases ho; rfl
            · cases ho), [2], [.b (pu (dI n)), .b (bL (es.map eE)), .p (dI (p.2 : Int)), .x, .x, .x],
          eg_name, by
            have hp : (es.map eE)[p.2]? = some (eE p.1) := by
              rw [List.getElem?_map, List.mk_mem_zipIdx_iff_getElem?.mp (show (p.1, p.2) ∈ es.zipIdx by rw [e]; simp)]; rfl
            have hat : atI (es.map eE) (p.2 : Int) = some (eE p.1) := by
              refine atI_map (Int.natCast_nonneg _) ?_
              rw [Int.toNat_natCast]
              exact List.mk_mem_zipIdx_iff_getElem?.mp (show (p.1, p.2) ∈ es.zipIdx by rw [e]; simp)
            have asg : ∀ {u : TS} {o : Out}, Ex (WofE E) u [.b (pu (dI n)), .b (bL (es.map eE)), .p (dI (p.2 : Int)), .p (dI p.1.1), .p (dI p.1.2.1), .p (dI p.1.2.2)] o → Ex (WofE E) (tSeq (tAsg (tOp (rIxL K) (tVar 1) (tVar 2)) (gTup K 3 (gCons (gName 3) (gCons (gName 4) (gCons (gName 5) gNil))))) u) [.b (pu (dI n)), .b (bL (es.map eE)), .p (dI (p.2 : Int)), .x, .x, .x] o := fun k =>
              Ex.seq (Ex.asg (R := dat (eE p.1)) (ev_op (ev_b rfl) (by walk_at "ze") (o_ixL hat)) (eg_tup (egs_cons eg_name (egs_cons eg_name (egs_cons eg_name egs_nil))) rfl)) k
            refine asg ?_
            have et : (!(decide (0 ≤ p.1.1) && decide (p.1.1 < n)) || (!(decide (0 ≤ p.1.2.1) && decide (p.1.2.1 < n)) || decide (p.1.1 = p.1.2.1))) = !(isEnds n p.1.1 p.1.2.1) := by
              unfold isEnds
              cases decide (0 ≤ p.1.1) <;> cases decide (p.1.1 < n) <;> cases decide (0 ≤ p.1.2.1) <;> cases decide (p.1.2.1 < n) <;> cases decide (p.1.1 = p.1.2.1) <;> rfl
            have tst := EvT.is (show EvT (tOr (tNot (tTest (tChain (rI0 fun i j => V.bl (decide (i ≤ j))) (rI0 fun i j => V.bl (decide (i < j))) (tC (V.int 0)) (tVar 3) (tVar 0)))) (tOr (tNot (tTest (tChain (rI0 fun i j => V.bl (decide (i ≤ j))) (rI0 fun i j => V.bl (decide (i < j))) (tC (V.int 0)) (tVar 4) (tVar 0)))) (tTest (tOp rEq (tVar 3) (tVar 4))))) [.b (pu (dI n)), .b (bL (es.map eE)), .p (dI (p.2 : Int)), .p (dI p.1.1), .p (dI p.1.2.1), .p (dI p.1.2.2)] _ by walk_at "zt") et
            rcases badEdge_cases n p.1 with ⟨h1, h2⟩ | ⟨h1, h2, h3⟩ | ⟨h1, h2, h3⟩
            · rw [h2]
              refine Ex.ite tst (fun z => ?_) (fun z => by rw [h1] at z; cases z)
              exact Ex.seqE (Ex.is (Ex.ret (by walk_at "ze")) (by rfl)) rfl
            · rw [h3]
              refine Ex.ite tst (fun z => by rw [h1] at z; cases z) (fun _ => Ex.skip ?_)
              refine Ex.ife (b := !(isPrice p.1.2.2)) (EvT.is (by walk_at "zt") (by rfl)) (fun z => ?_) (fun z => by rw [h2] at z; cases z)
              exact Ex.is (Ex.ret (by walk_at "ze")) (by rfl)
            · rw [h3]
              refine Ex.ite tst (fun z => by rw [h1] at z; cases z) (fun _ => Ex.skip ?_)
              refine Ex.ife (b := !(isPrice p.1.2.2)) (EvT.is (by walk_at "zt") (by rfl)) (fun z => by rw [h2] at z; cases z) (fun _ => ?_)
              exact Ex.go (Ex.out (.k (.k (.x (.x (.x (.x .nil)))))) Ex.next)⟩)
      case hi =>
        have e2 : es.zipIdx.map (fun p : E3 × Nat => PyData.int (p.2 : Int)) = (List.range es.length).map fun (k : Nat) => .int (k : Int) := by
          rw [List.range_eq_range', ← List.zipIdx_map_snd 0 es, List.map_map]; rfl
        rw [e2]
        have e3 := ei_rangeT (K := K) (ρ := ρ0) (n := ((es.map eE).length : Int)) (tr := tCons (tCB (cLen K) (tCons (tVar 1) tNil)) tNil) (by walk_at "za") (by omega) (by omega)
        rw [hl, Int.toNat_natCast] at e3
        exact e3
      have run : ∀ ps : List (E3 × Nat), runF (fun (_ : Unit) (p : E3 × Nat) => (match badEdge n p.1 with | some k => .inr (.rt (dat (.tuple [kindsM k, .int (p.2 : Int)]))) | none => .inl () : Sum Unit Out)) () ps = (match firstBad n ps with | some (k, m) => .inr (.rt (dat (.tuple [kindsM k, .int m]))) | none => .inl ()) := by
        intro ps
        induction ps with
        | nil => rfl
        | cons p ps ih =>
          cases hb : badEdge n p.1 with
          | some k => unfold runF firstBad; simp only [hb]
          | none =>
            have e1 : firstBad n (p :: ps) = firstBad n ps := by conv => lhs; unfold firstBad; simp only [hb]
            rw [e1]
            unfold runF
            simp only [hb]
            exact ih
      rw [run] at loop
      cases hf : firstBad n es.zipIdx with
      | none =>
        rw [hf] at loop
        refine ⟨.ok (dat .none), [], by show Res.ok (dat (madeD n es)) = _; rw [madeD_ok (e0.trans ((if_neg c2).trans hf))], ?_⟩
        refine Ex.ite (b := !(isSize n)) (EvT.is (by walk_at "zt") (by rfl)) (fun z => by rw [c1] at z; cases z) (fun _ => Ex.skip ?_)
        refine Ex.ite (b := decide ((200 : Int) < (es.map eE).length)) (by walk_at "zt") (fun z => absurd (by rw [← hl]; exact of_decide_eq_true z) c2) (fun _ => Ex.skip ?_)
        exact Ex.seq loop (Ex.ret ev_non)
      | some ka =>
        obtain ⟨k, a⟩ := ka
        rw [hf] at loop
        refine ⟨.ok (dat (.tuple [kindsM k, .int a])), [], by show Res.ok (dat (madeD n es)) = _; rw [madeD_err (e0.trans ((if_neg c2).trans hf))], ?_⟩
        refine Ex.ite (b := !(isSize n)) (EvT.is (by walk_at "zt") (by rfl)) (fun z => by rw [c1] at z; cases z) (fun _ => Ex.skip ?_)
        refine Ex.ite (b := decide ((200 : Int) < (es.map eE).length)) (by walk_at "zt") (fun z => absurd (by rw [← hl]; exact of_decide_eq_true z) c2) (fun _ => Ex.skip ?_)
        exact Ex.seqE loop rfl

end
end Q

set_option Elab.async false
set_option linter.all false
set_option maxRecDepth 100000
set_option maxHeartbeats 4000000
namespace Q
open PySem PySem.Spec PyProof.Rows L2 Z
local macro_rules | `(tactic| walk_at "zo") => `(tactic| first
  | with_reducible exact o_int0 | with_reducible exact o_bool0 | exact o_eqI | exact o_neI
  | exact o_intC (by assumption) | exact o_intC (by show (0 : Int) < _; omega) | exact o_intC ⟨by omega, by omega⟩ | exact o_intC (Or.inr ⟨by omega, by omega⟩) | exact o_intC (Or.inl ⟨by omega, by omega⟩) | exact o_intC ⟨by decide, by decide, by decide⟩
  | exact o_ixL (by assumption) | exact Op2.l (o_ixL (by assumption)) | exact o_ixT rfl | exact o_inT2 | exact o_inT | exact o_inL | exact Op2.r o_inL | exact o_notInL | exact Op2.r o_notInL | exact o_isN | exact o_notN)
local macro_rules | `(tactic| walk_at "zc") => `(tactic| first
  | exact cl_len | exact cl_lenP | exact cl_int | exact cl_abs | exact cl_min2 | exact cl_max2 | exact cl_intB | exact cl_sum | exact cl_any | exact cl_all)
local macro_rules | `(tactic| walk_at "za") => `(tactic| first
  | with_reducible exact ea_nil | with_reducible exact ed_nil
  | ((with_reducible refine' ed_cons ?z1 ?z2); (case z1 => walk_at "ze"); (case z2 => walk_at "za"))
  | ((with_reducible refine' ea_cons ?z1 ?z2); (case z1 => walk_at "ze"); (case z2 => walk_at "za")))
local macro_rules | `(tactic| walk_at "ze") => `(tactic| first
  | with_reducible assumption
  | with_reducible exact ev_int | with_reducible exact ev_bl | with_reducible exact ev_non | with_reducible exact ev_str
  | ((with_reducible refine' ev_b ?z1); (case z1 => rfl)) | ((with_reducible refine' ev_var ?z1); (case z1 => rfl)) | ((with_reducible refine' ev_o ?z1); (case z1 => rfl))
  | ((with_reducible refine' ev_op ?z1 ?z2 ?z3); (case z1 => walk_at "ze"); (case z2 => walk_at "ze"); (case z3 => walk_at "zo"))
  | ((with_reducible refine' ev_chain ?z1 ?z2 ?z3 ?z4 ?z5); (case z1 => walk_at "ze"); (case z2 => walk_at "ze"); (case z4 => walk_at "zo"); (case z3 => intro _; walk_at "ze"); (case z5 => intro _; walk_at "zo"))
  | ((with_reducible refine' ev_andV ?z1 ?z2); (case z1 => walk_at "ze"); (case z2 => intro _; walk_at "ze"))
  | ((with_reducible refine' ev_orV ?z1 ?z2); (case z1 => walk_at "ze"); (case z2 => intro _; walk_at "ze"))
  | ((with_reducible refine' ev_notV ?z1); (case z1 => walk_at "ze"))
  | ((with_reducible refine' ev_neg ?z1); (case z1 => walk_at "ze"))
  | ((with_reducible refine' ev_tupD ?z1 ?z2); (case z1 => walk_at "za"); (case z2 => exact Nat.le_of_ble_eq_true rfl))
  | ((with_reducible refine' ev_cb ?z1 ?z2); (case z1 => walk_at "za"); (case z2 => walk_at "zc"))
  | ((with_reducible refine' EvN.ev ?z1); (case z1 => walk_at "zn"))
  | walk_at "zf")
local macro_rules | `(tactic| walk_at "zb") => `(tactic| first
  | with_reducible assumption
  | ((with_reducible refine' ev_b ?z1); (case z1 => rfl)) | ((with_reducible refine' ev_o ?z1); (case z1 => rfl))
  | ((with_reducible refine' Ev.bl ?z1); (case z1 => walk_at "ze")))
local macro_rules | `(tactic| walk_at "zn") => `(tactic| first
  | with_reducible assumption
  | ((with_reducible refine' en_lstD ?z1 ?z2); (case z1 => walk_at "za"); (case z2 => exact Nat.le_of_ble_eq_true rfl))
  | ((with_reducible refine' en_cb ?z1 ?z2); (case z1 => walk_at "za"); (case z2 => first | exact cl_list | exact cl_listP)))
local macro_rules | `(tactic| walk_at "zt") => `(tactic| first
  | with_reducible assumption
  | ((with_reducible refine' et_test ?z1); (case z1 => walk_at "ze"))
  | ((with_reducible refine' et_B ?z1); (case z1 => walk_at "ze"))
  | ((with_reducible refine' et_and ?z1 ?z2); (case z1 => walk_at "zt"); (case z2 => intro _; walk_at "zt"))
  | ((with_reducible refine' et_or ?z1 ?z2); (case z1 => walk_at "zt"); (case z2 => intro _; walk_at "zt"))
  | ((with_reducible refine' et_not ?z1); (case z1 => walk_at "zt")))
local macro_rules | `(tactic| walk_at "zf") => `(tactic| first
  | ((with_reducible refine' c_is_size ?z1); (case z1 => walk_at "ze"))
  | ((with_reducible refine' c_is_price ?z1); (case z1 => walk_at "ze"))
  | ((with_reducible refine' c_are_ends ?z1 ?z2 ?z3); (case z1 => walk_at "ze"); (case z2 => walk_at "ze"); (case z3 => walk_at "ze"))
  | ((with_reducible refine' c_mix ?z0 ?z1 ?z2 ?z3); (case z1 => walk_at "zb"); (case z2 => walk_at "ze"); (case z3 => walk_at "ze"); (case z0 => first | assumption | omega | decide))
  | ((with_reducible refine' fld_size (by assumption) ?z1); (case z1 => walk_at "ze"))
  | ((with_reducible refine' fld_edges (by assumption) ?z1); (case z1 => walk_at "ze")))
local macro_rules | `(tactic| walk_at "zc") => `(tactic| exact cl_lenS)
local macro_rules | `(tactic| walk_at "zo") => `(tactic| exact o_ixS (by omega) (by assumption))
section
variable {P : Program} {w : World} {K : PySem.W.Frag} {mg : Str → Option Value} {base : Heap}
theorem ok_law_refused (T : Tx K mg) : FnOk P w K mg base (L2.CX P w) 6 T.f_law_refused T.fd_law_refused ["way", "network", "number", "price"] (sp_law_refused T) := by
  refine T.F_law_refused.okX sc_law_refused (SpA.len fun _ => rfl) (fun cdv A outer s H vs Q E hr h => ⟨_, (pss_cons (ps_try_as (i := 4) rfl rfl sc_law_refused.nd rfl rfl ⟨rfl, by decide, .inl T.x_WebError.2.2.2.2⟩ (takes_of rfl rfl rfl rfl) (fun W pn xe tk hpx => (pss_one (ps_if (pt_cmpR op_eq (pv 0) pe_int (nomark _))
        (pss_one (ps_expr (pe_methSx (pv 1) T.cl_Network T.m_Network_around (ok_Network_around T) (hr.mono (by decide)) T.b_Network_around (fun σ => passAt tk σ) (pa_cons (pv 2) pa_nil))))
        (pss_one (ps_if (pt_cmpR op_eq (pv 0) pe_int (nomark _))
        (pss_one (ps_expr (pe_methSx (pv 1) T.cl_Network T.m_Network_leaving (ok_Network_leaving T) (hr.mono (by decide)) T.b_Network_leaving (fun σ => passAt tk σ) (pa_cons (pv 2) pa_nil))))
        (pss_one (ps_if (pt_cmpR op_eq (pv 0) pe_int (nomark _))
        (pss_one (ps_expr (pe_methSx (pv 1) T.cl_Network T.m_Network_entering (ok_Network_entering T) (hr.mono (by decide)) T.b_Network_entering (fun σ => passAt tk σ) (pa_cons (pv 2) pa_nil))))
        (pss_one (ps_expr (pe_methSx (pv 1) T.cl_Network T.m_Network_with_price (ok_Network_with_price T) (hr.mono (by decide)) T.b_Network_with_price (fun σ => passAt tk σ) (pa_cons (pv 2) (pa_cons (pv 3) pa_nil))))))))))))
        (fun a oe cls d pn hz hf => (pss_one (ps_ret (pe_tup (pa_cons (pe_lst (pa_cons (pe_callB (call_isX hz hf) (by rfl) T.z_isinstance (by decide +kernel) (pa_cons (pv 4) (pa_cons (pe_glob (v := .ref T.c_BadVertex) (by rfl) T.x_BadVertex.2.2.2.2 rfl) pa_nil))) (pa_cons (pe_callB (call_isX hz hf) (by rfl) T.z_isinstance (by decide +kernel) (pa_cons (pv 4) (pa_cons (pe_glob (v := .ref T.c_BadEdge) (by rfl) T.x_BadEdge.2.2.2.2 rfl) pa_nil))) (pa_cons (pe_callB (call_isX hz hf) (by rfl) T.z_isinstance (by decide +kernel) (pa_cons (pv 4) (pa_cons (pe_glob (v := .ref T.c_BadPrice) (by rfl) T.x_BadPrice.2.2.2.2 rfl) pa_nil))) pa_nil)))) (pa_cons (pe_xg hz hf (pv 4)) pa_nil)))))))
      (pss_one (ps_ret pe_non))), ?_⟩)
  refine SpA.go h N_law_refused 4 (fun _ => rfl) ?_
  rintro ⟨way, ⟨n, es⟩, num, price⟩ hl
  have hl : es.length ≤ 200 := hl
  cases hR : refE way n es num price with
  | none =>
    refine ⟨.ok (dat .none), [.b (pu (dI way)), .b (pu (netR T n es)), .b (pu (dI num)), .b (pu (dI price)), .x], by show Res.ok (dat (refD way n es num price)) = _; rw [refD_ok hR], ?_⟩
    refine Ex.seq (ρ1 := [.b (pu (dI way)), .b (pu (netR T n es)), .b (pu (dI num)), .b (pu (dI price)), .x]) (Ex.try_ok (tb := fun W => tIfS (tTest (tOp rEq (tVar 0) (tC (V.int 0)))) (tDrop (tMethSx T.c_Network "around" (sp_Network_around T) (WE W) (tVar 1) (tCons (tVar 2) tNil))) (tIfS (tTest (tOp rEq (tVar 0) (tC (V.int 1)))) (tDrop (tMethSx T.c_Network "leaving" (sp_Network_leaving T) (WE W) (tVar 1) (tCons (tVar 2) tNil))) (tIfS (tTest (tOp rEq (tVar 0) (tC (V.int 2)))) (tDrop (tMethSx T.c_Network "entering" (sp_Network_entering T) (WE W) (tVar 1) (tCons (tVar 2) tNil))) (tDrop (tMethSx T.c_Network "with_price" (sp_Network_with_price T) (WE W) (tVar 1) (tCons (tVar 2) (tCons (tVar 3) tNil))))))) (fun W => ?_) rfl) (Ex.ret ev_non)
    have hv : way = 0 ∨ way = 1 ∨ way = 2 → isVert n num = true := fun w => by
      have e : (if isVert n num = true then none else some (EK.bv, num)) = none := (if_pos w).symm.trans hR
      by_cases c : isVert n num = true
      · exact c
      · rw [if_neg c] at e; cases e
    refine Ex.ife (b := decide (way = 0)) (by walk_at "zt") (fun z => Ex.drop (EvN.ev (ms_around hl (hv (.inl (of_decide_eq_true z))) (by walk_at "ze") (by walk_at "ze")))) (fun z0 => ?_)
    refine Ex.ife (b := decide (way = 1)) (by walk_at "zt") (fun z => Ex.drop (EvN.ev (ms_leaving hl (hv (.inr (.inl (of_decide_eq_true z)))) (by walk_at "ze") (by walk_at "ze")))) (fun z1 => ?_)
    refine Ex.ife (b := decide (way = 2)) (by walk_at "zt") (fun z => Ex.drop (EvN.ev (ms_entering hl (hv (.inr (.inr (of_decide_eq_true z)))) (by walk_at "ze") (by walk_at "ze")))) (fun z2 => ?_)
    have w : ¬ (way = 0 ∨ way = 1 ∨ way = 2) := fun w => by
      rcases w with w | w | w
      · exact of_decide_eq_false z0 w
      · exact of_decide_eq_false z1 w
      · exact of_decide_eq_false z2 w
    have e : (if isVert es.length num = true then netErr n (withP es num price) else some (.be, num)) = none := (if_neg w).symm.trans hR
    by_cases c : isVert es.length num = true
    · rw [if_pos c] at e
      exact Ex.drop (ms_with hl c e (by walk_at "ze") (by walk_at "ze") (by walk_at "ze"))
    · rw [if_neg c] at e; cases e
  | some ka =>
    obtain ⟨k, a⟩ := ka
    have hk := T.ek k
    refine ⟨.ok (dat (.tuple [kindsR k, .int a])), [], by show Res.ok (dat (refD way n es num price)) = _; rw [refD_err hR], ?_⟩
    refine Ex.seqE (o := .rt (dat (.tuple [kindsR k, .int a]))) (Ex.try_x (tb := fun W => tIfS (tTest (tOp rEq (tVar 0) (tC (V.int 0)))) (tDrop (tMethSx T.c_Network "around" (sp_Network_around T) (WE W) (tVar 1) (tCons (tVar 2) tNil))) (tIfS (tTest (tOp rEq (tVar 0) (tC (V.int 1)))) (tDrop (tMethSx T.c_Network "leaving" (sp_Network_leaving T) (WE W) (tVar 1) (tCons (tVar 2) tNil))) (tIfS (tTest (tOp rEq (tVar 0) (tC (V.int 2)))) (tDrop (tMethSx T.c_Network "entering" (sp_Network_entering T) (WE W) (tVar 1) (tCons (tVar 2) tNil))) (tDrop (tMethSx T.c_Network "with_price" (sp_Network_with_price T) (WE W) (tVar 1) (tCons (tVar 2) (tCons (tVar 3) tNil))))))) (o := .rt (dat (.tuple [kindsR k, .int a]))) (ρ1 := [.b (pu (dI way)), .b (pu (netR T n es)), .b (pu (dI num)), .b (pu (dI price)), .x]) (C := T.cls k) (n := a) (fun W => ?_) (T.emk k) (fun b d =>
      Ex.ret (ev_tupD (ed_cons (EvN.ev (en_lstD (ed_cons (ev_isX rfl hk.1 (T.isk k .bv)) (ed_cons (ev_isX rfl hk.1 (T.isk k .be)) (ed_cons (ev_isX rfl hk.1 (T.isk k .bp)) ed_nil))) (Nat.le_of_ble_eq_true rfl))) (ed_cons (ev_at rfl hk.2.1 hk.2.2) ed_nil)) (Nat.le_of_ble_eq_true rfl)))) rfl
    have hv : way = 0 ∨ way = 1 ∨ way = 2 → ¬ isVert n num = true ∧ k = .bv ∧ a = num := fun w => by
      have e : (if isVert n num = true then none else some (EK.bv, num)) = some (k, a) := (if_pos w).symm.trans hR
      by_cases c : isVert n num = true
      · rw [if_pos c] at e; cases e
      · rw [if_neg c] at e; cases e; exact ⟨c, rfl, rfl⟩
    refine Ex.ife (b := decide (way = 0)) (by walk_at "zt") (fun z => ?_) (fun z0 => ?_)
    · obtain ⟨c, rfl, rfl⟩ := hv (.inl (of_decide_eq_true z))
      exact Ex.dropX (xs_around hl c (by walk_at "ze") (by walk_at "ze"))
    refine Ex.ife (b := decide (way = 1)) (by walk_at "zt") (fun z => ?_) (fun z1 => ?_)
    · obtain ⟨c, rfl, rfl⟩ := hv (.inr (.inl (of_decide_eq_true z)))
      exact Ex.dropX (xs_leaving hl c (by walk_at "ze") (by walk_at "ze"))
    refine Ex.ife (b := decide (way = 2)) (by walk_at "zt") (fun z => ?_) (fun z2 => ?_)
    · obtain ⟨c, rfl, rfl⟩ := hv (.inr (.inr (of_decide_eq_true z)))
      exact Ex.dropX (xs_entering hl c (by walk_at "ze") (by walk_at "ze"))
    have w : ¬ (way = 0 ∨ way = 1 ∨ way = 2) := fun w => by
      rcases w with w | w | w
      · exact of_decide_eq_false z0 w
      · exact of_decide_eq_false z1 w
      · exact of_decide_eq_false z2 w
    have e : (if isVert es.length num = true then netErr n (withP es num price) else some (.be, num)) = some (k, a) := (if_neg w).symm.trans hR
    exact Ex.dropX (xs_with hl e (by walk_at "ze") (by walk_at "ze") (by walk_at "ze"))

end
end Q

set_option Elab.async false
set_option linter.all false
set_option maxRecDepth 100000
set_option maxHeartbeats 4000000
namespace Q
open PySem PySem.Spec PyProof.Rows L2 Z
local macro_rules | `(tactic| walk_at "zo") => `(tactic| first
  | with_reducible exact o_int0 | with_reducible exact o_bool0 | exact o_eqI | exact o_neI
  | exact o_intC (by assumption) | exact o_intC (by show (0 : Int) < _; omega) | exact o_intC ⟨by omega, by omega⟩ | exact o_intC (Or.inr ⟨by omega, by omega⟩) | exact o_intC (Or.inl ⟨by omega, by omega⟩) | exact o_intC ⟨by decide, by decide, by decide⟩
  | exact o_ixL (by assumption) | exact Op2.l (o_ixL (by assumption)) | exact o_ixT rfl | exact o_inT2 | exact o_inT | exact o_inL | exact Op2.r o_inL | exact o_notInL | exact Op2.r o_notInL | exact o_isN | exact o_notN)
local macro_rules | `(tactic| walk_at "zc") => `(tactic| first
  | exact cl_len | exact cl_lenP | exact cl_int | exact cl_abs | exact cl_min2 | exact cl_max2 | exact cl_intB | exact cl_sum | exact cl_any | exact cl_all)
local macro_rules | `(tactic| walk_at "za") => `(tactic| first
  | with_reducible exact ea_nil | with_reducible exact ed_nil
  | ((with_reducible refine' ed_cons ?z1 ?z2); (case z1 => walk_at "ze"); (case z2 => walk_at "za"))
  | ((with_reducible refine' ea_cons ?z1 ?z2); (case z1 => walk_at "ze"); (case z2 => walk_at "za")))
local macro_rules | `(tactic| walk_at "ze") => `(tactic| first
  | with_reducible assumption
  | with_reducible exact ev_int | with_reducible exact ev_bl | with_reducible exact ev_non | with_reducible exact ev_str
  | ((with_reducible refine' ev_b ?z1); (case z1 => rfl)) | ((with_reducible refine' ev_var ?z1); (case z1 => rfl)) | ((with_reducible refine' ev_o ?z1); (case z1 => rfl))
  | ((with_reducible refine' ev_op ?z1 ?z2 ?z3); (case z1 => walk_at "ze"); (case z2 => walk_at "ze"); (case z3 => walk_at "zo"))
  | ((with_reducible refine' ev_chain ?z1 ?z2 ?z3 ?z4 ?z5); (case z1 => walk_at "ze"); (case z2 => walk_at "ze"); (case z4 => walk_at "zo"); (case z3 => intro _; walk_at "ze"); (case z5 => intro _; walk_at "zo"))
  | ((with_reducible refine' ev_andV ?z1 ?z2); (case z1 => walk_at "ze"); (case z2 => intro _; walk_at "ze"))
  | ((with_reducible refine' ev_orV ?z1 ?z2); (case z1 => walk_at "ze"); (case z2 => intro _; walk_at "ze"))
  | ((with_reducible refine' ev_notV ?z1); (case z1 => walk_at "ze"))
  | ((with_reducible refine' ev_neg ?z1); (case z1 => walk_at "ze"))
  | ((with_reducible refine' ev_tupD ?z1 ?z2); (case z1 => walk_at "za"); (case z2 => exact Nat.le_of_ble_eq_true rfl))
  | ((with_reducible refine' ev_cb ?z1 ?z2); (case z1 => walk_at "za"); (case z2 => walk_at "zc"))
  | ((with_reducible refine' EvN.ev ?z1); (case z1 => walk_at "zn"))
  | walk_at "zf")
local macro_rules | `(tactic| walk_at "zb") => `(tactic| first
  | with_reducible assumption
  | ((with_reducible refine' ev_b ?z1); (case z1 => rfl)) | ((with_reducible refine' ev_o ?z1); (case z1 => rfl))
  | ((with_reducible refine' Ev.bl ?z1); (case z1 => walk_at "ze")))
local macro_rules | `(tactic| walk_at "zn") => `(tactic| first
  | with_reducible assumption
  | ((with_reducible refine' en_lstD ?z1 ?z2); (case z1 => walk_at "za"); (case z2 => exact Nat.le_of_ble_eq_true rfl))
  | ((with_reducible refine' en_cb ?z1 ?z2); (case z1 => walk_at "za"); (case z2 => first | exact cl_list | exact cl_listP)))
local macro_rules | `(tactic| walk_at "zt") => `(tactic| first
  | with_reducible assumption
  | ((with_reducible refine' et_test ?z1); (case z1 => walk_at "ze"))
  | ((with_reducible refine' et_B ?z1); (case z1 => walk_at "ze"))
  | ((with_reducible refine' et_and ?z1 ?z2); (case z1 => walk_at "zt"); (case z2 => intro _; walk_at "zt"))
  | ((with_reducible refine' et_or ?z1 ?z2); (case z1 => walk_at "zt"); (case z2 => intro _; walk_at "zt"))
  | ((with_reducible refine' et_not ?z1); (case z1 => walk_at "zt")))
local macro_rules | `(tactic| walk_at "zf") => `(tactic| first
  | ((with_reducible refine' c_is_size ?z1); (case z1 => walk_at "ze"))
  | ((with_reducible refine' c_is_price ?z1); (case z1 => walk_at "ze"))
  | ((with_reducible refine' c_are_ends ?z1 ?z2 ?z3); (case z1 => walk_at "ze"); (case z2 => walk_at "ze"); (case z3 => walk_at "ze"))
  | ((with_reducible refine' c_mix ?z0 ?z1 ?z2 ?z3); (case z1 => walk_at "zb"); (case z2 => walk_at "ze"); (case z3 => walk_at "ze"); (case z0 => first | assumption | omega | decide))
  | ((with_reducible refine' fld_size (by assumption) ?z1); (case z1 => walk_at "ze"))
  | ((with_reducible refine' fld_edges (by assumption) ?z1); (case z1 => walk_at "ze")))
local macro_rules | `(tactic| walk_at "zc") => `(tactic| exact cl_lenS)
local macro_rules | `(tactic| walk_at "zo") => `(tactic| exact o_ixS (by omega) (by assumption))
section
variable {P : Program} {w : World} {K : PySem.W.Frag} {mg : Str → Option Value} {base : Heap}
theorem ok_law_alike (T : Tx K mg) : FnOk P w K mg base (L2.CX P w) 5 T.f_law_alike T.fd_law_alike ["network", "size", "edges"] (sp_law_alike T) := by
  refine T.F_law_alike.okX sc_law_alike (SpA.len fun _ => rfl) (fun cdv A outer s H vs Q E hr h => ⟨_, (pss_cons (ps_if (PW.pt (pw_or (pt_cmpR op_ne (pe_meth0 (pv 0) T.cl_Network T.m_Network_size (ok_Network_size T) (hr.mono (by decide)) T.b_Network_size .nil (passes_call (takes_of rfl rfl rfl rfl) fun _ _ _ _ z => z)) (pv 1) (nomark _)) (pw_or1 (pt_cmpR (kop_neD K (Z.room64 hr)) (pe_meth0 (pv 0) T.cl_Network T.m_Network_edges (ok_Network_edges T) (hr.mono (by decide)) T.b_Network_edges .nil (passes_call (takes_of rfl rfl rfl rfl) fun _ _ _ _ z => z)) (pv 2) (nomark _)))))
        (pss_one (ps_ret pe_bl))
        pss_nil)
      (pss_cons (ps_for (passes_of rfl) rfl (pi_range1 (by rfl) T.z_range (pa_cons (pv 1) pa_nil)) (pg_name (i := 3) sc_law_alike.nd rfl (by first | exact Or.inl rfl | exact Or.inr rfl))
        (pss_cons (ps_setLc (i := 5) (own := [("k", 4)]) (g := (gName 4)) rfl sc_law_alike.nd rfl rfl (sw_true rfl rfl rfl (by decide +kernel)) (pi_range1 (by rfl) T.z_range (pa_cons (pe_callB (kcall_len K) (by rfl) T.z_len PySem.boot_len (pa_cons (pv 2) pa_nil)) pa_nil)) (blkOk_by (N := N_law_alike) (sc := defScope s_law_alike) (by decide +kernel)) (fun _ _ _ _ _ => (pg_name (i := 4) sc_law_alike.nd rfl (by first | exact Or.inl rfl | exact Or.inr rfl))) (fun _ _ _ _ _ => (pts_one (pt_cmpR (kop_in K) (pv 3) (pe_slice (ksl_tup K) (pe_ix (kix_list K) (pv 2) (pv 4) (fun _ _ => rfl)) po_none (po_some pe_int)) rfl))) (fun _ _ _ _ _ => (pv 4)))
      (pss_cons (ps_if (pt_cmpR (kop_neD K (Z.room64 hr)) (pe_meth (pv 0) T.cl_Network T.m_Network_around (ok_Network_around T) (hr.mono (by decide)) T.b_Network_around .nil (passes_call (takes_of rfl rfl rfl rfl) fun _ _ _ _ z => z) (pa_cons (pv 3) pa_nil)) (pv 5) (nomark _))
        (pss_one (ps_ret pe_bl))
        pss_nil)
      (pss_cons (ps_if (pt_cmpR (kop_neD K (Z.room64 hr)) (pe_meth (pv 0) T.cl_Network T.m_Network_leaving (ok_Network_leaving T) (hr.mono (by decide)) T.b_Network_leaving .nil (passes_call (takes_of rfl rfl rfl rfl) fun _ _ _ _ z => z) (pa_cons (pv 3) pa_nil)) (pe_lc (own := [("k", 4)]) (g := (gName 4)) rfl sc_law_alike.nd (kpi_list K (pv 5)) (blkOk_by (N := N_law_alike) (sc := defScope s_law_alike) (by decide +kernel)) (fun _ _ _ _ _ => (pg_name (i := 4) sc_law_alike.nd rfl (by first | exact Or.inl rfl | exact Or.inr rfl))) (fun _ _ _ _ _ => (pts_one (pt_cmpR op_eq (pe_ix (kix_tup K) (pe_ix (kix_list K) (pv 2) (pv 4) (fun _ _ => rfl)) pe_int (fun _ _ => rfl)) (pv 3) (nomark _)))) (fun _ _ _ _ _ => (pv 4))) (nomark _))
        (pss_one (ps_ret pe_bl))
        pss_nil)
      (pss_cons (ps_if (pt_cmpR (kop_neD K (Z.room64 hr)) (pe_meth (pv 0) T.cl_Network T.m_Network_entering (ok_Network_entering T) (hr.mono (by decide)) T.b_Network_entering .nil (passes_call (takes_of rfl rfl rfl rfl) fun _ _ _ _ z => z) (pa_cons (pv 3) pa_nil)) (pe_lc (own := [("k", 4)]) (g := (gName 4)) rfl sc_law_alike.nd (kpi_list K (pv 5)) (blkOk_by (N := N_law_alike) (sc := defScope s_law_alike) (by decide +kernel)) (fun _ _ _ _ _ => (pg_name (i := 4) sc_law_alike.nd rfl (by first | exact Or.inl rfl | exact Or.inr rfl))) (fun _ _ _ _ _ => (pts_one (pt_cmpR op_eq (pe_ix (kix_tup K) (pe_ix (kix_list K) (pv 2) (pv 4) (fun _ _ => rfl)) pe_int (fun _ _ => rfl)) (pv 3) (nomark _)))) (fun _ _ _ _ _ => (pv 4))) (nomark _))
        (pss_one (ps_ret pe_bl))
        pss_nil)
      (pss_one (ps_for (passes_of rfl) rfl (kpi_list K (pv 5)) (pg_name (i := 4) sc_law_alike.nd rfl (by first | exact Or.inl rfl | exact Or.inr rfl))
        (pss_one (ps_if (pt_cmpR op_ne (pe_meth (pv 0) T.cl_Network T.m_Network_other_end (ok_Network_other_end T) (hr.mono (by decide)) T.b_Network_other_end .nil (passes_call (takes_of rfl rfl rfl rfl) fun _ _ _ _ z => z) (pa_cons (pv 4) (pa_cons (pv 3) pa_nil))) (pe_op op_sub (pe_op op_add (pe_ix (kix_tup K) (pe_ix (kix_list K) (pv 2) (pv 4) (fun _ _ => rfl)) pe_int (fun _ _ => rfl)) (pe_ix (kix_tup K) (pe_ix (kix_list K) (pv 2) (pv 4) (fun _ _ => rfl)) pe_int (fun _ _ => rfl))) (pv 3)) (nomark _))
        (pss_one (ps_ret pe_bl))
        pss_nil)))))))))
      (pss_one (ps_ret pe_bl)))), ?_⟩)
  refine SpA.go h N_law_alike 3 (fun _ => rfl) ?_
  rintro ⟨n, es⟩ F
  have F : Fine n es := F
  have hl := F.len
  have hn := F.lo
  have hn2 := F.hi
  let ρ0 : List Sl := [.b (pu (netR T n es)), .b (pu (dI n)), .b (pu (dat (eEs es))), .x, .x, .x]
  have sE : Sh 2 (.list (es.map eE)) := sh_list (sh_map fun e _ => sh_tup (sh_cons sh_int (sh_cons sh_int (sh_cons sh_int sh_nil))))
  have sI : ∀ l : List Nat, Sh 1 (.list (l.map fun (k : Nat) => .int (k : Int))) := fun l => sh_list (sh_map fun k _ => sh_int)
  refine ⟨.ok (dB true), ρ0, rfl, ?_⟩
  refine Ex.ite (b := false) (EvT.is (et_or (et_test (ev_op (m_size (ev_b rfl)) (ev_b rfl) o_neI)) (fun _ => et_test (ev_op (EvN.ev (m_edges (ev_b rfl))) (ev_b rfl) (o_neD sE.shaped sE.shaped)))) ?_) (fun z => by cases z) (fun _ => Ex.skip ?_)
  · show ((!decide (n = n)) || (!PyData.eqv (.list (es.map eE)) (.list (es.map eE)))) = false
    rw [sE.refl, decide_eq_true rfl]; rfl
  refine Ex.seq (ρ1 := ρ0) (Ex.for_ (K := K) (xs := List.range n.toNat) (en := fun (k : Nat) => .int (k : Int)) (fun _ => ρ0) (ei_rangeT (by walk_at "za") (by omega) (by omega)) (Wk.refl _) ?_) (Ex.ret ev_bl)
  intro pre v post e
  have hv : v < n.toNat := List.mem_range.mp (by rw [e]; simp)
  have hvt : isVert n (v : Int) = true := by
    unfold isVert
    rw [decide_eq_true (Int.natCast_nonneg v), decide_eq_true (by omega)]; rfl
  refine ⟨[3], _, eg_name, ?_⟩
  -- around
  have hlc : EvN (tLc (iRng1 (tCons (tCB (cLen K) (tCons (tVar 2) tNil)) tNil)) (gName 4) (tTest (tOp (rIn K false) (tVar 3) (tSl (rSlT K) (tOp (rIxL K) (tVar 2) (tVar 4)) tNoPart (tPart (tC (.int 2)))))) (tVar 4) [4]) [.b (pu (netR T n es)), .b (pu (dI n)), .b (pu (dat (eEs es))), .p (dI (v : Int)), .x, .x] ((arL es v).map fun (k : Nat) => .int (k : Int)) := by
    refine en_lc (K := K) (xs := List.range es.length) (en := fun (k : Nat) => .int (k : Int)) (f := fun (k : Nat) => .int (k : Int)) (p := fun k => decide ((v : Int) ∈ [(es.getD k (0, 0, 0)).1, (es.getD k (0, 0, 0)).2.1])) ?_ ⟨rfl, trivial⟩ (by rw [List.length_range]; omega) fun k hk => ⟨[4], _, eg_name, fun i hi => hi, .k (.k (.k (.k (.x (.x .nil))))), ?_, fun _ => ev_var rfl⟩
    · have h3 := ei_rangeT (K := K) (ρ := [.b (pu (netR T n es)), .b (pu (dI n)), .b (pu (dat (eEs es))), .p (dI (v : Int)), .x, .x]) (n := ((es.map eE).length : Int)) (tr := tCons (tCB (cLen K) (tCons (tVar 2) tNil)) tNil) (ea_cons (ev_cb (ea_cons (ev_b rfl) ea_nil) cl_lenP) ea_nil) (by omega) (by rw [List.length_map]; omega)
      rw [List.length_map, Int.toNat_natCast] at h3
      exact h3
    · have hk' : k < es.length := List.mem_range.mp hk
      refine et_test (ev_op (ev_var rfl) (Ev.is (ev_slT (ds := [.int (es.getD k (0, 0, 0)).1, .int (es.getD k (0, 0, 0)).2.1, .int (es.getD k (0, 0, 0)).2.2]) (ev_op (ev_b rfl) (ev_var rfl) (Op2.l (o_ixL (atE hk')))) eo_none (eo_some ev_int) (fun z => absurd z.2 (by show ¬ (2 : Nat) = 3; decide))) (by rfl)) o_inT2)
  refine Ex.seq (Ex.setN (i := 5) hlc (by show 5 < 6; decide)) (Ex.freeze 5 rfl ?_)
  show Ex _ _ [.b (pu (netR T n es)), .b (pu (dI n)), .b (pu (dat (eEs es))), .p (dI (v : Int)), .x, .p (dat (.list ((arL es v).map fun (k : Nat) => .int (k : Int))))] _
  -- the comparisons
  have hsub : ∀ {g : Nat → Bool} {tt : TT}, (∀ k ∈ arL es v, EvT tt [.b (pu (netR T n es)), .b (pu (dI n)), .b (pu (dat (eEs es))), .p (dI (v : Int)), .p (dI (k : Int)), .p (dat (.list ((arL es v).map fun (k : Nat) => .int (k : Int))))] (g k)) → EvN (tLc (iList K (tVar 5)) (gName 4) tt (tVar 4) [4]) [.b (pu (netR T n es)), .b (pu (dI n)), .b (pu (dat (eEs es))), .p (dI (v : Int)), .x, .p (dat (.list ((arL es v).map fun (k : Nat) => .int (k : Int))))] (((arL es v).filter g).map fun (k : Nat) => .int (k : Int)) := fun {g tt} ht =>
    en_lc (K := K) (xs := arL es v) (en := fun (k : Nat) => .int (k : Int)) (f := fun (k : Nat) => .int (k : Int)) (p := g) (ei_list (Ev.s (ev_var rfl))) ⟨rfl, trivial⟩ (Nat.le_trans (List.length_filter_le _ _) (by rw [List.length_range]; omega)) fun k hk => ⟨[4], _, eg_name, fun i hi => hi, .k (.k (.k (.k (.x (.k .nil))))), ht k hk, fun _ => ev_var rfl⟩
  have hlt : ∀ k ∈ arL es v, k < es.length := fun k hk => List.mem_range.mp (List.mem_filter.mp hk).1
  refine Ex.ite (b := false) (EvT.is (et_test (ev_op (EvN.ev (EvN.is (m_around hl hvt (ev_b rfl) (ev_var rfl)) (aroundL_eq es v))) (ev_var rfl) (o_neD (sI _).shaped (sI _).shaped))) (by rw [(sI _).refl]; rfl)) (fun z => by cases z) (fun _ => Ex.skip ?_)
  refine Ex.ite (b := false) (EvT.is (et_test (ev_op (EvN.ev (EvN.is (m_leaving hl hvt (ev_b rfl) (ev_var rfl)) (leavingL_eq es v))) (EvN.ev (hsub fun k hk => et_test (ev_op (ev_op (ev_op (ev_b rfl) (ev_var rfl) (Op2.l (o_ixL (atE (hlt k hk))))) ev_int (o_ixT rfl)) (ev_var rfl) o_eqI))) (o_neD (sI _).shaped (sI _).shaped))) (by rw [(sI _).refl]; rfl)) (fun z => by cases z) (fun _ => Ex.skip ?_)
  refine Ex.ite (b := false) (EvT.is (et_test (ev_op (EvN.ev (EvN.is (m_entering hl hvt (ev_b rfl) (ev_var rfl)) (enteringL_eq es v))) (EvN.ev (hsub fun k hk => et_test (ev_op (ev_op (ev_op (ev_b rfl) (ev_var rfl) (Op2.l (o_ixL (atE (hlt k hk))))) ev_int (o_ixT rfl)) (ev_var rfl) o_eqI))) (o_neD (sI _).shaped (sI _).shaped))) (by rw [(sI _).refl]; rfl)) (fun z => by cases z) (fun _ => Ex.skip ?_)
  -- the other ends
  refine Ex.go (Ex.out (.k (.k (.k (.x (.x (.x .nil)))))) (Ex.for_ (K := K) (xs := arL es v) (en := fun (k : Nat) => .int (k : Int)) (fun _ => [.b (pu (netR T n es)), .b (pu (dI n)), .b (pu (dat (eEs es))), .p (dI (v : Int)), .x, .p (dat (.list ((arL es v).map fun (k : Nat) => .int (k : Int))))]) (ei_list (Ev.s (ev_var rfl))) (Wk.refl _) ?_))
  intro pre2 k post2 e2
  have hkm : k ∈ arL es v := by rw [e2]; simp
  have hk := hlt k hkm
  have hmem : (v : Int) = (es.getD k (0, 0, 0)).1 ∨ (v : Int) = (es.getD k (0, 0, 0)).2.1 := by
    have := of_decide_eq_true (List.mem_filter.mp hkm).2
    simpa using this
  have ho : otherEnd es (k : Int) v = (es.getD k (0, 0, 0)).1 + (es.getD k (0, 0, 0)).2.1 - v := by
    unfold otherEnd
    rw [Int.toNat_natCast]
    by_cases c : (es.getD k (0, 0, 0)).1 = v
    · rw [if_pos c, ← c]; omega
    · rw [if_neg c]
      rcases hmem with h | h
      · exact absurd h.symm c
      · rw [h]; omega
  refine ⟨[4], _, eg_name, ?_⟩
  refine Ex.ife (b := false) (EvT.is (et_test (ev_op (m_other (Int.natCast_nonneg k) (by omega) (ev_b rfl) (ev_var rfl) (ev_var rfl)) (ev_op (ev_op (ev_op (ev_op (ev_b rfl) (ev_var rfl) (Op2.l (o_ixL (atE hk)))) ev_int (o_ixT rfl)) (ev_op (ev_op (ev_b rfl) (ev_var rfl) (Op2.l (o_ixL (atE hk)))) ev_int (o_ixT rfl)) o_int0) (ev_var rfl) o_int0) o_neI)) ?_) (fun z => by cases z) (fun _ => Ex.go (Ex.out (.k (.k (.k (.k (.x (.k .nil)))))) Ex.next))
  rw [ho, decide_eq_true rfl]; rfl

end
end Q

set_option Elab.async false
set_option linter.all false
set_option maxRecDepth 100000
set_option maxHeartbeats 4000000
namespace Q
open PySem PySem.Spec PyProof.Rows L2 Z
local macro_rules | `(tactic| walk_at "zo") => `(tactic| first
  | with_reducible exact o_int0 | with_reducible exact o_bool0 | exact o_eqI | exact o_neI
  | exact o_intC (by assumption) | exact o_intC (by show (0 : Int) < _; omega) | exact o_intC ⟨by omega, by omega⟩ | exact o_intC (Or.inr ⟨by omega, by omega⟩) | exact o_intC (Or.inl ⟨by omega, by omega⟩) | exact o_intC ⟨by decide, by decide, by decide⟩
  | exact o_ixL (by assumption) | exact Op2.l (o_ixL (by assumption)) | exact o_ixT rfl | exact o_inT2 | exact o_inT | exact o_inL | exact Op2.r o_inL | exact o_notInL | exact Op2.r o_notInL | exact o_isN | exact o_notN)
local macro_rules | `(tactic| walk_at "zc") => `(tactic| first
  | exact cl_len | exact cl_lenP | exact cl_int | exact cl_abs | exact cl_min2 | exact cl_max2 | exact cl_intB | exact cl_sum | exact cl_any | exact cl_all)
local macro_rules | `(tactic| walk_at "za") => `(tactic| first
  | with_reducible exact ea_nil | with_reducible exact ed_nil
  | ((with_reducible refine' ed_cons ?z1 ?z2); (case z1 => walk_at "ze"); (case z2 => walk_at "za"))
  | ((with_reducible refine' ea_cons ?z1 ?z2); (case z1 => walk_at "ze"); (case z2 => walk_at "za")))
local macro_rules | `(tactic| walk_at "ze") => `(tactic| first
  | with_reducible assumption
  | with_reducible exact ev_int | with_reducible exact ev_bl | with_reducible exact ev_non | with_reducible exact ev_str
  | ((with_reducible refine' ev_b ?z1); (case z1 => rfl)) | ((with_reducible refine' ev_var ?z1); (case z1 => rfl)) | ((with_reducible refine' ev_o ?z1); (case z1 => rfl))
  | ((with_reducible refine' ev_op ?z1 ?z2 ?z3); (case z1 => walk_at "ze"); (case z2 => walk_at "ze"); (case z3 => walk_at "zo"))
  | ((with_reducible refine' ev_chain ?z1 ?z2 ?z3 ?z4 ?z5); (case z1 => walk_at "ze"); (case z2 => walk_at "ze"); (case z4 => walk_at "zo"); (case z3 => intro _; walk_at "ze"); (case z5 => intro _; walk_at "zo"))
  | ((with_reducible refine' ev_andV ?z1 ?z2); (case z1 => walk_at "ze"); (case z2 => intro _; walk_at "ze"))
  | ((with_reducible refine' ev_orV ?z1 ?z2); (case z1 => walk_at "ze"); (case z2 => intro _; walk_at "ze"))
  | ((with_reducible refine' ev_notV ?z1); (case z1 => walk_at "ze"))
  | ((with_reducible refine' ev_neg ?z1); (case z1 => walk_at "ze"))
  | ((with_reducible refine' ev_tupD ?z1 ?z2); (case z1 => walk_at "za"); (case z2 => exact Nat.le_of_ble_eq_true rfl))
  | ((with_reducible refine' ev_cb ?z1 ?z2); (case z1 => walk_at "za"); (case z2 => walk_at "zc"))
  | ((with_reducible refine' EvN.ev ?z1); (case z1 => walk_at "zn"))
  | walk_at "zf")
local macro_rules | `(tactic| walk_at "zb") => `(tactic| first
  | with_reducible assumption
  | ((with_reducible refine' ev_b ?z1); (case z1 => rfl)) | ((with_reducible refine' ev_o ?z1); (case z1 => rfl))
  | ((with_reducible refine' Ev.bl ?z1); (case z1 => walk_at "ze")))
local macro_rules | `(tactic| walk_at "zn") => `(tactic| first
  | with_reducible assumption
  | ((with_reducible refine' en_lstD ?z1 ?z2); (case z1 => walk_at "za"); (case z2 => exact Nat.le_of_ble_eq_true rfl))
  | ((with_reducible refine' en_cb ?z1 ?z2); (case z1 => walk_at "za"); (case z2 => first | exact cl_list | exact cl_listP)))
local macro_rules | `(tactic| walk_at "zt") => `(tactic| first
  | with_reducible assumption
  | ((with_reducible refine' et_test ?z1); (case z1 => walk_at "ze"))
  | ((with_reducible refine' et_B ?z1); (case z1 => walk_at "ze"))
  | ((with_reducible refine' et_and ?z1 ?z2); (case z1 => walk_at "zt"); (case z2 => intro _; walk_at "zt"))
  | ((with_reducible refine' et_or ?z1 ?z2); (case z1 => walk_at "zt"); (case z2 => intro _; walk_at "zt"))
  | ((with_reducible refine' et_not ?z1); (case z1 => walk_at "zt")))
local macro_rules | `(tactic| walk_at "zf") => `(tactic| first
  | ((with_reducible refine' c_is_size ?z1); (case z1 => walk_at "ze"))
  | ((with_reducible refine' c_is_price ?z1); (case z1 => walk_at "ze"))
  | ((with_reducible refine' c_are_ends ?z1 ?z2 ?z3); (case z1 => walk_at "ze"); (case z2 => walk_at "ze"); (case z3 => walk_at "ze"))
  | ((with_reducible refine' c_mix ?z0 ?z1 ?z2 ?z3); (case z1 => walk_at "zb"); (case z2 => walk_at "ze"); (case z3 => walk_at "ze"); (case z0 => first | assumption | omega | decide))
  | ((with_reducible refine' fld_size (by assumption) ?z1); (case z1 => walk_at "ze"))
  | ((with_reducible refine' fld_edges (by assumption) ?z1); (case z1 => walk_at "ze")))
local macro_rules | `(tactic| walk_at "zc") => `(tactic| exact cl_lenS)
local macro_rules | `(tactic| walk_at "zo") => `(tactic| exact o_ixS (by omega) (by assumption))
section
variable {P : Program} {w : World} {K : PySem.W.Frag} {mg : Str → Option Value} {base : Heap}
theorem ok_law_bad_ones (T : Tx K mg) : FnOk P w K mg base (L2.CX P w) 2 T.f_law_bad_ones T.fd_law_bad_ones ["draws", "size", "edges"] (sp_law_bad_ones T) := by
  refine T.F_law_bad_ones.okX sc_law_bad_ones (SpA.len fun _ => rfl) (fun cdv A outer s H vs Q E hr h => ⟨_, (pss_cons (ps_set (i := 3) sc_law_bad_ones.nd rfl (by first | exact Or.inl rfl | exact Or.inr rfl) (pe_lst (pa_cons (pe_tup (pa_cons (pe_op op_sub (pe_call (ok_law_mix T) (hr.mono (by decide)) (by rfl) T.g_law_mix T.F_law_mix.kp T.b_law_mix .nil (passes_call (takes_of rfl rfl rfl rfl) fun _ _ _ _ z => z) (pa_cons (pv 0) (pa_cons pe_int (pa_cons pe_int pa_nil)))) pe_int) (pa_cons (pv 2) pa_nil))) (pa_cons (pe_tup (pa_cons (pe_op op_add pe_int (pe_call (ok_law_mix T) (hr.mono (by decide)) (by rfl) T.g_law_mix T.F_law_mix.kp T.b_law_mix .nil (passes_call (takes_of rfl rfl rfl rfl) fun _ _ _ _ z => z) (pa_cons (pv 0) (pa_cons pe_int (pa_cons pe_int pa_nil))))) (pa_cons (pv 2) pa_nil))) (pa_cons (pe_tup (pa_cons (pv 1) (pa_cons (pe_op op_cat (pv 2) (pe_op op_rep (pe_lst (pa_cons (pe_tup (pa_cons pe_int (pa_cons pe_int (pa_cons pe_int pa_nil)))) pa_nil)) pe_int)) pa_nil))) pa_nil)))))
      (pss_cons (ps_for (passes_of rfl) rfl (pi_range1 (by rfl) T.z_range (pa_cons pe_int pa_nil)) (pg_name (i := 4) sc_law_bad_ones.nd rfl (by first | exact Or.inl rfl | exact Or.inr rfl))
        (pss_cons (ps_set (i := 5) sc_law_bad_ones.nd rfl (by first | exact Or.inl rfl | exact Or.inr rfl) (pe_callTy (kcall_list K) (by rfl) T.z_list (by decide +kernel) (pa_cons (pv 2) pa_nil)))
      (pss_cons (ps_for (passes_of rfl) rfl (pi_range1 (by rfl) T.z_range (pa_cons (pe_op op_add pe_int (pe_call (ok_law_mix T) (hr.mono (by decide)) (by rfl) T.g_law_mix T.F_law_mix.kp T.b_law_mix .nil (passes_call (takes_of rfl rfl rfl rfl) fun _ _ _ _ z => z) (pa_cons (pv 0) (pa_cons (pe_op op_add pe_int (pv 4)) (pa_cons pe_int pa_nil))))) pa_nil)) (pg_name (i := 6) sc_law_bad_ones.nd rfl (by first | exact Or.inl rfl | exact Or.inr rfl))
        (pss_cons (ps_set (i := 7) sc_law_bad_ones.nd rfl (by first | exact Or.inl rfl | exact Or.inr rfl) (pe_op op_sub (pe_call (ok_law_mix T) (hr.mono (by decide)) (by rfl) T.g_law_mix T.F_law_mix.kp T.b_law_mix .nil (passes_call (takes_of rfl rfl rfl rfl) fun _ _ _ _ z => z) (pa_cons (pv 0) (pa_cons (pe_op op_add (pe_op op_add pe_int (pe_op op_mul pe_int (pv 4))) (pv 6)) (pa_cons (pe_op op_add (pv 1) pe_int) pa_nil)))) pe_int))
      (pss_cons (ps_set (i := 8) sc_law_bad_ones.nd rfl (by first | exact Or.inl rfl | exact Or.inr rfl) (pe_ix (kix_list K) (pe_lst (pa_cons (pv 7) (pa_cons (pe_op op_sub (pe_call (ok_law_mix T) (hr.mono (by decide)) (by rfl) T.g_law_mix T.F_law_mix.kp T.b_law_mix .nil (passes_call (takes_of rfl rfl rfl rfl) fun _ _ _ _ z => z) (pa_cons (pv 0) (pa_cons (pe_op op_add (pe_op op_add pe_int (pe_op op_mul pe_int (pv 4))) (pv 6)) (pa_cons (pe_op op_add (pv 1) pe_int) pa_nil)))) pe_int) pa_nil))) (pe_call (ok_law_mix T) (hr.mono (by decide)) (by rfl) T.g_law_mix T.F_law_mix.kp T.b_law_mix .nil (passes_call (takes_of rfl rfl rfl rfl) fun _ _ _ _ z => z) (pa_cons (pv 0) (pa_cons (pe_op op_add (pe_op op_add pe_int (pe_op op_mul pe_int (pv 4))) (pv 6)) (pa_cons pe_int pa_nil)))) (fun _ _ => rfl)))
      (pss_cons (ps_set (i := 9) sc_law_bad_ones.nd rfl (by first | exact Or.inl rfl | exact Or.inr rfl) (pe_lst (pa_cons pe_int (pa_cons (pe_op op_sub (pe_un un_neg pe_int) (pe_call (ok_law_mix T) (hr.mono (by decide)) (by rfl) T.g_law_mix T.F_law_mix.kp T.b_law_mix .nil (passes_call (takes_of rfl rfl rfl rfl) fun _ _ _ _ z => z) (pa_cons (pv 0) (pa_cons (pe_op op_add pe_int (pv 4)) (pa_cons pe_int pa_nil))))) (pa_cons (pe_op op_add pe_int (pe_call (ok_law_mix T) (hr.mono (by decide)) (by rfl) T.g_law_mix T.F_law_mix.kp T.b_law_mix .nil (passes_call (takes_of rfl rfl rfl rfl) fun _ _ _ _ z => z) (pa_cons (pv 0) (pa_cons (pe_op op_add pe_int (pv 4)) (pa_cons pe_int pa_nil))))) (pa_cons pe_int pa_nil))))))
      (pss_cons (ps_set (i := 10) sc_law_bad_ones.nd rfl (by first | exact Or.inl rfl | exact Or.inr rfl) (pe_tup (pa_cons (pv 7) (pa_cons (pv 8) (pa_cons (pe_ix (kix_list K) (pv 9) (pe_call (ok_law_mix T) (hr.mono (by decide)) (by rfl) T.g_law_mix T.F_law_mix.kp T.b_law_mix .nil (passes_call (takes_of rfl rfl rfl rfl) fun _ _ _ _ z => z) (pa_cons (pv 0) (pa_cons (pe_op op_add (pe_op op_add pe_int (pe_op op_mul pe_int (pv 4))) (pv 6)) (pa_cons pe_int pa_nil)))) (fun _ _ => rfl)) pa_nil)))))
      (pss_cons (ps_set (i := 11) sc_law_bad_ones.nd rfl (by first | exact Or.inl rfl | exact Or.inr rfl) (pe_call (ok_law_mix T) (hr.mono (by decide)) (by rfl) T.g_law_mix T.F_law_mix.kp T.b_law_mix .nil (passes_call (takes_of rfl rfl rfl rfl) fun _ _ _ _ z => z) (pa_cons (pv 0) (pa_cons (pe_op op_add (pe_op op_add pe_int (pe_op op_mul pe_int (pv 4))) (pv 6)) (pa_cons (pe_op op_add (pe_callB (kcall_len K) (by rfl) T.z_len PySem.boot_len (pa_cons (pv 5) pa_nil)) pe_int) pa_nil)))))
      (pss_one (ps_set (i := 5) sc_law_bad_ones.nd rfl (by first | exact Or.inl rfl | exact Or.inr rfl) (pe_op op_cat (pe_op op_cat (pe_slice (ksl_list K) (pv 5) po_none (po_some (pv 11))) (pe_lst (pa_cons (pv 10) pa_nil))) (pe_slice (ksl_list K) (pv 5) (po_some (pv 11)) po_none))))))))))
      (pss_one (ps_expr (pe_bm PySem.F.plainAttrs_list PySem.F.slot_list_append PySem.F.type_list_append mt_append (pv 3) (pa_cons (pe_tup (pa_cons (pv 1) (pa_cons (pv 5) pa_nil))) pa_nil)))))))
      (pss_one (ps_ret (pv 3))))), ?_⟩)
  refine SpA.go h N_law_bad_ones 3 (fun _ => rfl) ?_
  rintro ⟨ds, n, es⟩ ⟨hn, hl⟩
  have hn : 1 ≤ n := hn
  have hl : es.length ≤ 200 := hl
  have z9 : (0 : Int) < 3 := by decide
  refine ⟨.own (oL ((badRows ds n es).map eRow)), [.b (bL (ds.map .int)), .b (pu (dI n)), .b (pu (dat (eEs es))), .o (oL ((badRows ds n es).map eRow)), .x, .x, .x, .x, .x, .x, .x, .x], rfl, ?_⟩
  have hrep : EvN (tOp rCat (tVar 2) (tOp rRep (tLst (tCons (tTup (tCons (tC (.int 0)) (tCons (tC (.int 1)) (tCons (tC (.int 5)) tNil)))) tNil)) (tC (.int 201)))) [.b (bL (ds.map .int)), .b (pu (dI n)), .b (pu (dat (eEs es))), .x, .x, .x, .x, .x, .x, .x, .x, .x] ((es ++ List.replicate 201 (0, 1, 5)).map eE) := by
    refine EvN.is (ev_opN (Ev.bl (ev_b rfl)) (Ev.bl (EvN.ev (ev_opN (Ev.bl (EvN.ev (by walk_at "zn"))) ev_int (o_rep (ds := [.tuple [.int 0, .int 1, .int 5]]) (by decide) (by decide) (by decide))))) (o_cat ?_)) ?_
    · rw [List.length_map, show ((201 : Int).toNat) = 201 from rfl, rep_flat, List.length_replicate]; omega
    · rw [show ((201 : Int).toNat) = 201 from rfl, rep_flat, List.map_append, List.map_replicate]; rfl
  refine Ex.seq (Ex.setN (i := 3) (ds := (rows3 ds n es).map eRow) (EvN.is (en_lstD (ed_cons (by walk_at "ze") (ed_cons (by walk_at "ze") (ed_cons (ev_tupD (ed_cons (by walk_at "ze") (ed_cons (EvN.ev hrep) ed_nil)) (Nat.le_of_ble_eq_true rfl)) ed_nil))) (Nat.le_of_ble_eq_true rfl)) (by rfl)) (by show 3 < 12; decide)) ?_
  refine Ex.seq (ρ1 := [.b (bL (ds.map .int)), .b (pu (dI n)), .b (pu (dat (eEs es))), .o (oL ((badRows ds n es).map eRow)), .x, .x, .x, .x, .x, .x, .x, .x]) (Ex.for_ (K := K) (xs := List.range 4) (en := fun (k : Nat) => .int (k : Int)) (fun pre => [.b (bL (ds.map .int)), .b (pu (dI n)), .b (pu (dat (eEs es))), .o (oL ((rows3 ds n es ++ pre.map fun t => (n, badTurn ds n es t)).map eRow)), .x, .x, .x, .x, .x, .x, .x, .x]) (ei_rangeT (n := 4) (by walk_at "za") (by decide) (by decide)) (Wk.refl _) ?_) (Ex.retOv rfl)
  intro pre t post e
  have hp : pre.length ≤ 4 := by
    have := congrArg List.length e
    simp at this
    omega
  have mt := mix_bd (ds := ds) (k := 20 + t) (many := 2) (by decide)
  refine ⟨[4], _, eg_name, ?_⟩
  refine Ex.seq (Ex.setN (i := 5) (ds := es.map eE) (by walk_at "zn") (by show 5 < 12; decide)) ?_
  -- the edges put in
  refine Ex.seq (Ex.for_ (K := K) (xs := List.range (1 + mix ds (20 + t) 2).toNat) (en := fun (k : Nat) => .int (k : Int)) (fun p2 => [.b (bL (ds.map .int)), .b (pu (dI n)), .b (pu (dat (eEs es))), .o (oL ((rows3 ds n es ++ pre.map fun t => (n, badTurn ds n es t)).map eRow)), .p (dI (t : Int)), .o (oL ((p2.foldl (badOne ds n t) es).map eE)), .x, .x, .x, .x, .x, .x]) (ei_rangeT (by walk_at "za") (by omega) (by omega)) (Wk.refl _) ?_) ?_
  · intro p2 j post2 e2
    have hp2 : p2.length ≤ 2 := by
      have := congrArg List.length e2
      simp at this
      omega
    have hE : (p2 ++ [j]).foldl (badOne ds n t) es = badOne ds n t (p2.foldl (badOne ds n t) es) j := by rw [List.foldl_append]; rfl
    obtain ⟨bad, hbad⟩ : ∃ bad, bad = p2.foldl (badOne ds n t) es := ⟨_, rfl⟩
    have hbl : bad.length ≤ 202 := by rw [hbad, badFold_len]; omega
    show ∃ T ρ1, EvG _ T [.b (bL (ds.map .int)), .b (pu (dI n)), .b (pu (dat (eEs es))), .o (oL ((rows3 ds n es ++ pre.map fun t => (n, badTurn ds n es t)).map eRow)), .p (dI (t : Int)), .o (oL ((p2.foldl (badOne ds n t) es).map eE)), .x, .x, .x, .x, .x, .x] _ ρ1 ∧ Ex _ _ ρ1 (.go [.b (bL (ds.map .int)), .b (pu (dI n)), .b (pu (dat (eEs es))), .o (oL ((rows3 ds n es ++ pre.map fun t => (n, badTurn ds n es t)).map eRow)), .p (dI (t : Int)), .o (oL (((p2 ++ [j]).foldl (badOne ds n t) es).map eE)), .x, .x, .x, .x, .x, .x])
    rw [hE, ← hbad]
    refine ⟨[6], _, eg_name, ?_⟩
    have ma := mix_bd (ds := ds) (k := 32 + 5 * t + j) (many := 2) (by decide)
    have mb := mix_bd (ds := ds) (k := 34 + 5 * t + j) (many := 4) (by decide)
    have mc := mix_bd (ds := ds) (k := 35 + 5 * t + j) (many := bad.length + 1) (by omega)
    have hv : atI [PyData.int (endB ds n t j), .int (mix ds (31 + 5 * t + j) (n + 3) - 1)] (mix ds (32 + 5 * t + j) 2) = some (.int (edgeB ds n t j).2.1) := atI_ints (ds := [endB ds n t j, mix ds (31 + 5 * t + j) (n + 3) - 1]) ma.1 ma.2
    have hq : atI [PyData.int 3, .int (-1 - mix ds (33 + t) 9), .int (1048577 + mix ds (33 + t) 9), .int 1048576] (mix ds (34 + 5 * t + j) 4) = some (.int (edgeB ds n t j).2.2) := atI_ints (ds := [3, -1 - mix ds (33 + t) 9, 1048577 + mix ds (33 + t) 9, 1048576]) mb.1 mb.2
    refine Ex.seq (Ex.set (i := 7) (R := dI (endB ds n t j)) (Ev.is (by walk_at "ze") (by rfl))) ?_
    refine Ex.seq (Ex.set (i := 8) (R := dI (edgeB ds n t j).2.1) (ev_op (EvN.ev (by walk_at "zn")) (by walk_at "ze") (Op2.l (o_ixL hv)))) ?_
    refine Ex.seq (Ex.setN (i := 9) (ds := [.int 3, .int (-1 - mix ds (33 + t) 9), .int (1048577 + mix ds (33 + t) 9), .int 1048576]) (by walk_at "zn") (by show 9 < 12; decide)) ?_
    refine Ex.seq (Ex.set (i := 10) (R := dat (eE (edgeB ds n t j))) (Ev.is (ev_tupD (ed_cons (ev_var rfl) (ed_cons (ev_var rfl) (ed_cons (ev_op (ev_o rfl) (by walk_at "ze") (o_ixL hq)) ed_nil))) (Nat.le_of_ble_eq_true rfl)) (by rfl))) ?_
    refine Ex.seq (Ex.set (i := 11) (R := dI (mix ds (35 + 5 * t + j) (bad.length + 1))) (Ev.is (by walk_at "ze") (by rw [List.length_map]))) ?_
    have hcut : EvN (tOp rCat (tOp rCat (tSl (rSlL K) (tVar 5) tNoPart (tPart (tVar 11))) (tLst (tCons (tVar 10) tNil))) (tSl (rSlL K) (tVar 5) (tPart (tVar 11)) tNoPart)) [.b (bL (ds.map .int)), .b (pu (dI n)), .b (pu (dat (eEs es))), .o (oL ((rows3 ds n es ++ pre.map fun t => (n, badTurn ds n es t)).map eRow)), .p (dI (t : Int)), .o (oL (bad.map eE)), .p (dI (j : Int)), .p (dI (endB ds n t j)), .p (dI (edgeB ds n t j).2.1), .o (oL [.int 3, .int (-1 - mix ds (33 + t) 9), .int (1048577 + mix ds (33 + t) 9), .int 1048576]), .p (dat (eE (edgeB ds n t j))), .p (dI (mix ds (35 + 5 * t + j) (bad.length + 1)))] ((badOne ds n t bad j).map eE) := by
      have c1 : (mix ds (35 + 5 * t + j) (bad.length + 1)) ≤ (bad.map eE).length := by rw [List.length_map]; omega
      refine EvN.is (ev_opN (Ev.bl (EvN.ev (ev_opN (Ev.bl (EvN.ev (EvN.is (en_sl (ev_o rfl) eo_none (eo_some (ev_var rfl))) (cut_take mc.1 c1)))) (Ev.bl (EvN.ev (en_lstD (ed_cons (ev_var rfl) ed_nil) (Nat.le_of_ble_eq_true rfl)))) (o_cat ?_)))) (Ev.bl (EvN.ev (EvN.is (en_sl (ev_o rfl) (eo_some (ev_var rfl)) eo_none) (cut_drop mc.1 c1)))) (o_cat ?_)) ?_
      · rw [List.length_take, List.length_map]; show min _ _ + 1 ≤ _; omega
      · rw [List.length_append, List.length_take, List.length_drop, List.length_map]; show min _ _ + 1 + _ ≤ _; omega
      · unfold badOne
        rw [List.map_append, List.map_append, List.map_take, List.map_drop]; rfl
    exact Ex.go (Ex.out (.k (.k (.k (.k (.k (.k (.x (.x (.x (.x (.x (.x .nil)))))))))))) (Ex.setN (i := 5) hcut (by show 5 < 12; decide)))
  · refine Ex.freeze 5 rfl ?_
    refine Ex.go (Ex.out (ρ' := [.b (bL (ds.map .int)), .b (pu (dI n)), .b (pu (dat (eEs es))), .o (oL ((rows3 ds n es ++ (pre ++ [t]).map fun t => (n, badTurn ds n es t)).map eRow)), .p (dI (t : Int)), .p (dat (eEs (badTurn ds n es t))), .x, .x, .x, .x, .x, .x]) (.k (.k (.k (.k (.x (.x (.x (.x (.x (.x (.x (.x .nil)))))))))))) ?_)
    refine Ex.is (Ex.append (i := 3) (ds := (rows3 ds n es ++ pre.map fun t => (n, badTurn ds n es t)).map eRow) (d := eRow (n, badTurn ds n es t)) rfl (Ev.is (ev_tupD (ed_cons (ev_b rfl) (ed_cons (ev_var rfl) ed_nil)) (Nat.le_of_ble_eq_true rfl)) (by rfl)) (by rw [List.length_map, List.length_append, List.length_map]; show 3 + _ < _; omega) rfl) ?_
    rw [List.map_append, List.map_append (l₁ := pre), ← List.append_assoc, List.map_append, List.map_append]
    rfl

end
end Q

set_option Elab.async false
set_option linter.all false
set_option maxRecDepth 100000
set_option maxHeartbeats 4000000
namespace Q
open PySem PySem.Spec PyProof.Rows L2 Z
local macro_rules | `(tactic| walk_at "zo") => `(tactic| first
  | with_reducible exact o_int0 | with_reducible exact o_bool0 | exact o_eqI | exact o_neI
  | exact o_intC (by assumption) | exact o_intC (by show (0 : Int) < _; omega) | exact o_intC ⟨by omega, by omega⟩ | exact o_intC (Or.inr ⟨by omega, by omega⟩) | exact o_intC (Or.inl ⟨by omega, by omega⟩) | exact o_intC ⟨by decide, by decide, by decide⟩
  | exact o_ixL (by assumption) | exact Op2.l (o_ixL (by assumption)) | exact o_ixT rfl | exact o_inT2 | exact o_inT | exact o_inL | exact Op2.r o_inL | exact o_notInL | exact Op2.r o_notInL | exact o_isN | exact o_notN)
local macro_rules | `(tactic| walk_at "zc") => `(tactic| first
  | exact cl_len | exact cl_lenP | exact cl_int | exact cl_abs | exact cl_min2 | exact cl_max2 | exact cl_intB | exact cl_sum | exact cl_any | exact cl_all)
local macro_rules | `(tactic| walk_at "za") => `(tactic| first
  | with_reducible exact ea_nil | with_reducible exact ed_nil
  | ((with_reducible refine' ed_cons ?z1 ?z2); (case z1 => walk_at "ze"); (case z2 => walk_at "za"))
  | ((with_reducible refine' ea_cons ?z1 ?z2); (case z1 => walk_at "ze"); (case z2 => walk_at "za")))
local macro_rules | `(tactic| walk_at "ze") => `(tactic| first
  | with_reducible assumption
  | with_reducible exact ev_int | with_reducible exact ev_bl | with_reducible exact ev_non | with_reducible exact ev_str
  | ((with_reducible refine' ev_b ?z1); (case z1 => rfl)) | ((with_reducible refine' ev_var ?z1); (case z1 => rfl)) | ((with_reducible refine' ev_o ?z1); (case z1 => rfl))
  | ((with_reducible refine' ev_op ?z1 ?z2 ?z3); (case z1 => walk_at "ze"); (case z2 => walk_at "ze"); (case z3 => walk_at "zo"))
  | ((with_reducible refine' ev_chain ?z1 ?z2 ?z3 ?z4 ?z5); (case z1 => walk_at "ze"); (case z2 => walk_at "ze"); (case z4 => walk_at "zo"); (case z3 => intro _; walk_at "ze"); (case z5 => intro _; walk_at "zo"))
  | ((with_reducible refine' ev_andV ?z1 ?z2); (case z1 => walk_at "ze"); (case z2 => intro _; walk_at "ze"))
  | ((with_reducible refine' ev_orV ?z1 ?z2); (case z1 => walk_at "ze"); (case z2 => intro _; walk_at "ze"))
  | ((with_reducible refine' ev_notV ?z1); (case z1 => walk_at "ze"))
  | ((with_reducible refine' ev_neg ?z1); (case z1 => walk_at "ze"))
  | ((with_reducible refine' ev_tupD ?z1 ?z2); (case z1 => walk_at "za"); (case z2 => exact Nat.le_of_ble_eq_true rfl))
  | ((with_reducible refine' ev_cb ?z1 ?z2); (case z1 => walk_at "za"); (case z2 => walk_at "zc"))
  | ((with_reducible refine' EvN.ev ?z1); (case z1 => walk_at "zn"))
  | walk_at "zf")
local macro_rules | `(tactic| walk_at "zb") => `(tactic| first
  | with_reducible assumption
  | ((with_reducible refine' ev_b ?z1); (case z1 => rfl)) | ((with_reducible refine' ev_o ?z1); (case z1 => rfl))
  | ((with_reducible refine' Ev.bl ?z1); (case z1 => walk_at "ze")))
local macro_rules | `(tactic| walk_at "zn") => `(tactic| first
  | with_reducible assumption
  | ((with_reducible refine' en_lstD ?z1 ?z2); (case z1 => walk_at "za"); (case z2 => exact Nat.le_of_ble_eq_true rfl))
  | ((with_reducible refine' en_cb ?z1 ?z2); (case z1 => walk_at "za"); (case z2 => first | exact cl_list | exact cl_listP)))
local macro_rules | `(tactic| walk_at "zt") => `(tactic| first
  | with_reducible assumption
  | ((with_reducible refine' et_test ?z1); (case z1 => walk_at "ze"))
  | ((with_reducible refine' et_B ?z1); (case z1 => walk_at "ze"))
  | ((with_reducible refine' et_and ?z1 ?z2); (case z1 => walk_at "zt"); (case z2 => intro _; walk_at "zt"))
  | ((with_reducible refine' et_or ?z1 ?z2); (case z1 => walk_at "zt"); (case z2 => intro _; walk_at "zt"))
  | ((with_reducible refine' et_not ?z1); (case z1 => walk_at "zt")))
local macro_rules | `(tactic| walk_at "zf") => `(tactic| first
  | ((with_reducible refine' c_is_size ?z1); (case z1 => walk_at "ze"))
  | ((with_reducible refine' c_is_price ?z1); (case z1 => walk_at "ze"))
  | ((with_reducible refine' c_are_ends ?z1 ?z2 ?z3); (case z1 => walk_at "ze"); (case z2 => walk_at "ze"); (case z3 => walk_at "ze"))
  | ((with_reducible refine' c_mix ?z0 ?z1 ?z2 ?z3); (case z1 => walk_at "zb"); (case z2 => walk_at "ze"); (case z3 => walk_at "ze"); (case z0 => first | assumption | omega | decide))
  | ((with_reducible refine' fld_size (by assumption) ?z1); (case z1 => walk_at "ze"))
  | ((with_reducible refine' fld_edges (by assumption) ?z1); (case z1 => walk_at "ze")))
local macro_rules | `(tactic| walk_at "zc") => `(tactic| exact cl_lenS)
local macro_rules | `(tactic| walk_at "zo") => `(tactic| exact o_ixS (by omega) (by assumption))
section
variable {P : Program} {w : World} {K : PySem.W.Frag} {mg : Str → Option Value} {base : Heap}
theorem ok_law (T : Tx K mg) : RunAt P w K mg base (L2.CX P w) 7 T.f_law T.fd_law ["script"] (sp_law T) := by
  refine fun_at T.F_law sc_law (SpA.len fun _ => rfl) (fun cdv s H vs Q E hr hgd h => ⟨_, (pss_cons (ps_set (i := 1) sc_law.nd rfl (by first | exact Or.inl rfl | exact Or.inr rfl) (pe_call (ok_law_draws T) (hr.mono (by decide)) (by rfl) T.g_law_draws T.F_law_draws.kp T.b_law_draws .nil (passes_call (takes_of rfl rfl rfl rfl) fun _ _ _ _ z => z) (pa_cons (pv 0) pa_nil)))
      (pss_cons (ps_set (i := 2) sc_law.nd rfl (by first | exact Or.inl rfl | exact Or.inr rfl) (pe_cmpR op_eq (pe_call (ok_law_mix T) (hr.mono (by decide)) (by rfl) T.g_law_mix T.F_law_mix.kp T.b_law_mix .nil (passes_call (takes_of rfl rfl rfl rfl) fun _ _ _ _ z => z) (pa_cons (pv 1) (pa_cons pe_int (pa_cons pe_int pa_nil)))) pe_int (nomark _)))
      (pss_cons (ps_set (i := 3) sc_law.nd rfl (by first | exact Or.inl rfl | exact Or.inr rfl) (pe_ix (kix_list K) (pe_lst (pa_cons pe_int (pa_cons pe_int (pa_cons pe_int pa_nil)))) (pe_call (ok_law_mix T) (hr.mono (by decide)) (by rfl) T.g_law_mix T.F_law_mix.kp T.b_law_mix .nil (passes_call (takes_of rfl rfl rfl rfl) fun _ _ _ _ z => z) (pa_cons (pv 1) (pa_cons pe_int (pa_cons pe_int pa_nil)))) (fun _ _ => rfl)))
      (pss_cons (ps_asg (pe_call (ok_law_network T) (hr.mono (by decide)) (by rfl) T.g_law_network T.F_law_network.kp T.b_law_network .nil (passes_call (takes_of rfl rfl rfl rfl) fun _ _ _ _ z => z) (pa_cons (pv 1) (pa_cons pe_int (pa_cons (pe_ix (kix_list K) (pe_lst (pa_cons pe_int (pa_cons pe_int pa_nil))) (pe_callTy call_int1 (by rfl) T.z_int (by decide +kernel) (pa_cons (pv 2) pa_nil)) (fun _ _ => rfl)) (pa_cons (pe_ix (kix_list K) (pe_lst (pa_cons pe_int (pa_cons pe_int pa_nil))) (pe_callTy call_int1 (by rfl) T.z_int (by decide +kernel) (pa_cons (pv 2) pa_nil)) (fun _ _ => rfl)) (pa_cons (pv 3) pa_nil)))))) (kpg_tup K (n := 2) rfl (pgs_cons (pg_name (i := 4) sc_law.nd rfl (by first | exact Or.inl rfl | exact Or.inr rfl)) (pgs_cons (pg_name (i := 5) sc_law.nd rfl (by first | exact Or.inl rfl | exact Or.inr rfl)) pgs_nil))))
      (pss_cons (ps_set (i := 6) sc_law.nd rfl (by first | exact Or.inl rfl | exact Or.inr rfl) (pe_callTy (kcall_list K) (by rfl) T.z_list (by decide +kernel) (pa_cons (pv 5) pa_nil)))
      (pss_cons (ps_set (i := 7) sc_law.nd rfl (by first | exact Or.inl rfl | exact Or.inr rfl) (pe_make T.mk_Network (ok_Network___init__ T) (hr.mono (by decide)) (by rfl) T.g_Network T.b_Network___init__ .nil (passes_call (takes_of rfl rfl rfl rfl) fun _ _ _ _ z => z) (pa_cons (pv 4) (pa_cons (pv 5) pa_nil))))
      (pss_cons (ps_expr (pe_bm PySem.F.plainAttrs_list PySem.F.slot_list_append PySem.F.type_list_append mt_append (pv 5) (pa_cons (pe_tup (pa_cons pe_int (pa_cons pe_int (pa_cons pe_int pa_nil)))) pa_nil)))
      (pss_cons (ps_expr (pe_bm PySem.F.plainAttrs_list PySem.F.slot_list_append PySem.F.type_list_append mt_append (pe_meth0 (pv 7) T.cl_Network T.m_Network_edges (ok_Network_edges T) (hr.mono (by decide)) T.b_Network_edges .nil (passes_call (takes_of rfl rfl rfl rfl) fun _ _ _ _ z => z)) (pa_cons (pe_tup (pa_cons pe_int (pa_cons pe_int (pa_cons pe_int pa_nil)))) pa_nil)))
      (pss_cons (ps_expr (pe_bm PySem.F.plainAttrs_list PySem.F.slot_list_append PySem.F.type_list_append mt_append (pe_meth (pv 7) T.cl_Network T.m_Network_around (ok_Network_around T) (hr.mono (by decide)) T.b_Network_around .nil (passes_call (takes_of rfl rfl rfl rfl) fun _ _ _ _ z => z) (pa_cons pe_int pa_nil)) (pa_cons pe_int pa_nil)))
      (pss_cons (ps_if (pt_not (pt_val (pe_call (ok_law_alike T) (hr.mono (by decide)) (by rfl) T.g_law_alike T.F_law_alike.kp T.b_law_alike .nil (passes_call (takes_of rfl rfl rfl rfl) fun _ _ _ _ z => z) (pa_cons (pv 7) (pa_cons (pv 4) (pa_cons (pv 6) pa_nil))))))
        (pss_one (ps_ret pe_bl))
        pss_nil)
      (pss_cons (ps_for (passes_of rfl) rfl (kpi_list K (pe_call (ok_law_bad_ones T) (hr.mono (by decide)) (by rfl) T.g_law_bad_ones T.F_law_bad_ones.kp T.b_law_bad_ones .nil (passes_call (takes_of rfl rfl rfl rfl) fun _ _ _ _ z => z) (pa_cons (pv 1) (pa_cons (pv 4) (pa_cons (pv 6) pa_nil))))) (pg_name (i := 8) sc_law.nd rfl (by first | exact Or.inl rfl | exact Or.inr rfl))
        (pss_cons (ps_set (i := 9) sc_law.nd rfl (by first | exact Or.inl rfl | exact Or.inr rfl) (pe_callB (call_repr hgd (Z.room70 hr)) (by rfl) T.z_repr (by decide +kernel) (pa_cons (pv 8) pa_nil)))
      (pss_one (ps_if (PW.pt (pw_or (pt_cmpR (kop_neD K (Z.room64 hr)) (pe_call (ok_law_made T) (hr.mono (by decide)) (by rfl) T.g_law_made T.F_law_made.kp T.b_law_made .nil (passes_call (takes_of rfl rfl rfl rfl) fun _ _ _ _ z => z) (pa_cons (pe_ix (kix_tup K) (pv 8) pe_int (fun _ _ => rfl)) (pa_cons (pe_ix (kix_tup K) (pv 8) pe_int (fun _ _ => rfl)) pa_nil))) (pe_call (ok_law_due T) (hr.mono (by decide)) (by rfl) T.g_law_due T.F_law_due.kp T.b_law_due .nil (passes_call (takes_of rfl rfl rfl rfl) fun _ _ _ _ z => z) (pa_cons (pe_ix (kix_tup K) (pv 8) pe_int (fun _ _ => rfl)) (pa_cons (pe_ix (kix_tup K) (pv 8) pe_int (fun _ _ => rfl)) pa_nil))) (nomark _)) (pw_or1 (pt_cmpR op_ne (pe_callB (call_repr hgd (Z.room70 hr)) (by rfl) T.z_repr (by decide +kernel) (pa_cons (pv 8) pa_nil)) (pv 9) (nomark _)))))
        (pss_one (ps_ret pe_bl))
        pss_nil))))
      (pss_cons (ps_for (passes_of rfl) rfl (kpi_list K (pe_lst (pa_cons (pe_op op_sub (pe_un un_neg pe_int) (pe_call (ok_law_mix T) (hr.mono (by decide)) (by rfl) T.g_law_mix T.F_law_mix.kp T.b_law_mix .nil (passes_call (takes_of rfl rfl rfl rfl) fun _ _ _ _ z => z) (pa_cons (pv 1) (pa_cons pe_int (pa_cons pe_int pa_nil))))) (pa_cons (pe_op op_add (pv 4) (pe_call (ok_law_mix T) (hr.mono (by decide)) (by rfl) T.g_law_mix T.F_law_mix.kp T.b_law_mix .nil (passes_call (takes_of rfl rfl rfl rfl) fun _ _ _ _ z => z) (pa_cons (pv 1) (pa_cons pe_int (pa_cons pe_int pa_nil))))) pa_nil)))) (pg_name (i := 10) sc_law.nd rfl (by first | exact Or.inl rfl | exact Or.inr rfl))
        (pss_one (ps_for (passes_of rfl) rfl (pi_range1 (by rfl) T.z_range (pa_cons pe_int pa_nil)) (pg_name (i := 11) sc_law.nd rfl (by first | exact Or.inl rfl | exact Or.inr rfl))
        (pss_one (ps_if (pt_cmpR (kop_neD K (Z.room64 hr)) (pe_call (ok_law_refused T) (hr.mono (by decide)) (by rfl) T.g_law_refused T.F_law_refused.kp T.b_law_refused .nil (passes_call (takes_of rfl rfl rfl rfl) fun _ _ _ _ z => z) (pa_cons (pv 11) (pa_cons (pv 7) (pa_cons (pv 10) (pa_cons pe_int pa_nil))))) (pe_tup (pa_cons (pe_lst (pa_cons pe_bl (pa_cons pe_bl (pa_cons pe_bl pa_nil)))) (pa_cons (pv 10) pa_nil))) (nomark _))
        (pss_one (ps_ret pe_bl))
        pss_nil)))))
      (pss_cons (ps_for (passes_of rfl) rfl (kpi_list K (pe_lst (pa_cons (pe_op op_sub (pe_un un_neg pe_int) (pe_call (ok_law_mix T) (hr.mono (by decide)) (by rfl) T.g_law_mix T.F_law_mix.kp T.b_law_mix .nil (passes_call (takes_of rfl rfl rfl rfl) fun _ _ _ _ z => z) (pa_cons (pv 1) (pa_cons pe_int (pa_cons pe_int pa_nil))))) (pa_cons (pe_op op_add (pe_callB (kcall_len K) (by rfl) T.z_len PySem.boot_len (pa_cons (pv 6) pa_nil)) (pe_call (ok_law_mix T) (hr.mono (by decide)) (by rfl) T.g_law_mix T.F_law_mix.kp T.b_law_mix .nil (passes_call (takes_of rfl rfl rfl rfl) fun _ _ _ _ z => z) (pa_cons (pv 1) (pa_cons pe_int (pa_cons pe_int pa_nil))))) pa_nil)))) (pg_name (i := 10) sc_law.nd rfl (by first | exact Or.inl rfl | exact Or.inr rfl))
        (pss_one (ps_if (pt_cmpR (kop_neD K (Z.room64 hr)) (pe_call (ok_law_refused T) (hr.mono (by decide)) (by rfl) T.g_law_refused T.F_law_refused.kp T.b_law_refused .nil (passes_call (takes_of rfl rfl rfl rfl) fun _ _ _ _ z => z) (pa_cons pe_int (pa_cons (pv 7) (pa_cons (pv 10) (pa_cons (pe_ix (kix_list K) (pe_lst (pa_cons (pe_un un_neg pe_int) (pa_cons pe_int pa_nil))) (pe_call (ok_law_mix T) (hr.mono (by decide)) (by rfl) T.g_law_mix T.F_law_mix.kp T.b_law_mix .nil (passes_call (takes_of rfl rfl rfl rfl) fun _ _ _ _ z => z) (pa_cons (pv 1) (pa_cons pe_int (pa_cons pe_int pa_nil)))) (fun _ _ => rfl)) pa_nil))))) (pe_tup (pa_cons (pe_lst (pa_cons pe_bl (pa_cons pe_bl (pa_cons pe_bl pa_nil)))) (pa_cons (pv 10) pa_nil))) (nomark _))
        (pss_one (ps_ret pe_bl))
        pss_nil)))
      (pss_cons (ps_for (passes_of rfl) rfl (pi_range1 (by rfl) T.z_range (pa_cons (pe_callB (call_min2 rfl) (by rfl) T.z_min (by decide +kernel) (pa_cons pe_int (pa_cons (pe_callB (kcall_len K) (by rfl) T.z_len PySem.boot_len (pa_cons (pv 6) pa_nil)) pa_nil))) pa_nil)) (pg_name (i := 12) sc_law.nd rfl (by first | exact Or.inl rfl | exact Or.inr rfl))
        (pss_cons (ps_set (i := 13) sc_law.nd rfl (by first | exact Or.inl rfl | exact Or.inr rfl) (pe_call (ok_law_mix T) (hr.mono (by decide)) (by rfl) T.g_law_mix T.F_law_mix.kp T.b_law_mix .nil (passes_call (takes_of rfl rfl rfl rfl) fun _ _ _ _ z => z) (pa_cons (pv 1) (pa_cons (pe_op op_add pe_int (pv 12)) (pa_cons (pe_callB (kcall_len K) (by rfl) T.z_len PySem.boot_len (pa_cons (pv 6) pa_nil)) pa_nil)))))
      (pss_cons (ps_for (passes_of rfl) rfl (kpi_list K (pe_lst (pa_cons (pe_op op_sub (pe_un un_neg pe_int) (pe_call (ok_law_mix T) (hr.mono (by decide)) (by rfl) T.g_law_mix T.F_law_mix.kp T.b_law_mix .nil (passes_call (takes_of rfl rfl rfl rfl) fun _ _ _ _ z => z) (pa_cons (pv 1) (pa_cons pe_int (pa_cons pe_int pa_nil))))) (pa_cons (pe_op op_add pe_int (pe_call (ok_law_mix T) (hr.mono (by decide)) (by rfl) T.g_law_mix T.F_law_mix.kp T.b_law_mix .nil (passes_call (takes_of rfl rfl rfl rfl) fun _ _ _ _ z => z) (pa_cons (pv 1) (pa_cons pe_int (pa_cons pe_int pa_nil))))) pa_nil)))) (pg_name (i := 10) sc_law.nd rfl (by first | exact Or.inl rfl | exact Or.inr rfl))
        (pss_one (ps_if (pt_cmpR (kop_neD K (Z.room64 hr)) (pe_call (ok_law_refused T) (hr.mono (by decide)) (by rfl) T.g_law_refused T.F_law_refused.kp T.b_law_refused .nil (passes_call (takes_of rfl rfl rfl rfl) fun _ _ _ _ z => z) (pa_cons pe_int (pa_cons (pv 7) (pa_cons (pv 13) (pa_cons (pv 10) pa_nil))))) (pe_tup (pa_cons (pe_lst (pa_cons pe_bl (pa_cons pe_bl (pa_cons pe_bl pa_nil)))) (pa_cons (pv 13) pa_nil))) (nomark _))
        (pss_one (ps_ret pe_bl))
        pss_nil)))
      (pss_cons (ps_set (i := 14) sc_law.nd rfl (by first | exact Or.inl rfl | exact Or.inr rfl) (pe_ix (kix_list K) (pe_lst (pa_cons pe_int (pa_cons pe_int (pa_cons (pe_call (ok_law_mix T) (hr.mono (by decide)) (by rfl) T.g_law_mix T.F_law_mix.kp T.b_law_mix .nil (passes_call (takes_of rfl rfl rfl rfl) fun _ _ _ _ z => z) (pa_cons (pv 1) (pa_cons (pe_op op_add pe_int (pv 12)) (pa_cons pe_int pa_nil)))) pa_nil)))) (pe_call (ok_law_mix T) (hr.mono (by decide)) (by rfl) T.g_law_mix T.F_law_mix.kp T.b_law_mix .nil (passes_call (takes_of rfl rfl rfl rfl) fun _ _ _ _ z => z) (pa_cons (pv 1) (pa_cons pe_int (pa_cons pe_int pa_nil)))) (fun _ _ => rfl)))
      (pss_cons (ps_set (i := 15) sc_law.nd rfl (by first | exact Or.inl rfl | exact Or.inr rfl) (pe_meth (pv 7) T.cl_Network T.m_Network_with_price (ok_Network_with_price T) (hr.mono (by decide)) T.b_Network_with_price .nil (passes_call (takes_of rfl rfl rfl rfl) fun _ _ _ _ z => z) (pa_cons (pv 13) (pa_cons (pv 14) pa_nil))))
      (pss_cons (ps_set (i := 16) sc_law.nd rfl (by first | exact Or.inl rfl | exact Or.inr rfl) (pe_op op_cat (pe_op op_cat (pe_slice (ksl_list K) (pv 6) po_none (po_some (pv 13))) (pe_lst (pa_cons (pe_tup (pa_cons (pe_ix (kix_tup K) (pe_ix (kix_list K) (pv 6) (pv 13) (fun _ _ => rfl)) pe_int (fun _ _ => rfl)) (pa_cons (pe_ix (kix_tup K) (pe_ix (kix_list K) (pv 6) (pv 13) (fun _ _ => rfl)) pe_int (fun _ _ => rfl)) (pa_cons (pv 14) pa_nil)))) pa_nil))) (pe_slice (ksl_list K) (pv 6) (po_some (pe_op op_add (pv 13) pe_int)) po_none)))
      (pss_one (ps_if (pt_not (pt_val (pe_call (ok_law_alike T) (hr.mono (by decide)) (by rfl) T.g_law_alike T.F_law_alike.kp T.b_law_alike .nil (passes_call (takes_of rfl rfl rfl rfl) fun _ _ _ _ z => z) (pa_cons (pv 15) (pa_cons (pv 4) (pa_cons (pv 16) pa_nil))))))
        (pss_one (ps_ret pe_bl))
        pss_nil))))))))
      (pss_one (ps_ret (pe_call (ok_law_alike T) (hr.mono (by decide)) (by rfl) T.g_law_alike T.F_law_alike.kp T.b_law_alike .nil (passes_call (takes_of rfl rfl rfl rfl) fun _ _ _ _ z => z) (pa_cons (pv 7) (pa_cons (pv 4) (pa_cons (pv 6) pa_nil)))))))))))))))))))), ?_⟩)
  refine SpA.go h N_law 1 (fun _ => rfl) ?_
  intro xs hl
  have hl : xs.length ≤ 63 := hl
  obtain ⟨ds, hds⟩ : ∃ ds, ds = drawsL xs := ⟨_, rfl⟩
  obtain ⟨b, hb⟩ : ∃ b, b = decide (mix ds 10 5 = 1) := ⟨_, rfl⟩
  obtain ⟨top, htop⟩ : ∃ top, top = topN ds := ⟨_, rfl⟩
  obtain ⟨sz, hsz⟩ : ∃ z : Int, z = if b then 40 else 12 := ⟨_, rfl⟩
  obtain ⟨mn, hmn⟩ : ∃ z : Int, z = if b then 200 else 14 := ⟨_, rfl⟩
  have hsz1 : 0 < sz ∧ sz ≤ 40 := by rw [hsz]; cases b <;> decide
  have hmn1 : 0 ≤ mn ∧ mn ≤ 200 := by rw [hmn]; cases b <;> decide
  have htop1 : 0 < top ∧ top ≤ 1048577 := by rw [htop]; exact top_bd ds
  obtain ⟨n, hn⟩ : ∃ n, n = sizeN ds 40 sz := ⟨_, rfl⟩
  obtain ⟨es, hes⟩ : ∃ es, es = edgesN ds 40 n mn top := ⟨_, rfl⟩
  have F : Fine n es := by
    rw [hes, hn]
    exact fine_net hsz1.1 hsz1.2 hmn1.1 hmn1.2 htop1.1 htop1.2
  have hlo := F.lo
  have hhi := F.hi
  have hle := F.len
  have sI : ∀ a : Int, Sh 2 (.tuple [kindsR .bv, .int a]) := fun a => sh_ref
  refine ⟨.ok (dB true), [.b (pu (scR K xs)), .o (oL (ds.map .int)), .p (dB b), .p (dI top), .p (dI n), .o (oL (es.map eE ++ [.tuple [.int 0, .int 0, .int 0]])), .p (dat (eEs es)), .p (netR T n es), .x, .x, .x, .x, .x, .x, .x, .x, .x], rfl, ?_⟩
  refine Ex.seq (Ex.setN (i := 1) (ds := ds.map .int) (EvN.is (c_draws hl (ev_b rfl)) (by rw [hds])) (by show 1 < 17; decide)) ?_
  refine Ex.seq (Ex.set (i := 2) (R := dB b) (Ev.is (by walk_at "ze") (by rw [hb]))) ?_
  have m0 := mix_bd (ds := ds) (k := 0) (many := 3) (by decide)
  have ht : atI [PyData.int 3, .int 60, .int 1048577] (mix ds 0 3) = some (.int top) := by rw [htop]; exact atI_ints (ds := [3, 60, 1048577]) m0.1 m0.2
  refine Ex.seq (Ex.set (i := 3) (R := dI top) (ev_op (EvN.ev (by walk_at "zn")) (by walk_at "ze") (Op2.l (o_ixL ht)))) ?_
  have hs2 : atI [PyData.int 12, .int 40] (if b then 1 else 0) = some (.int sz) := by rw [hsz]; cases b <;> rfl
  have hm2 : atI [PyData.int 14, .int 200] (if b then 1 else 0) = some (.int mn) := by rw [hmn]; cases b <;> rfl
  refine Ex.seq (Ex.asgPair (i := 4) (j := 5) (n := n) (ds := es.map eE) (ds, (40 : Int), sz, mn, top) (ea_cons (ev_o rfl) (ea_cons ev_int (ea_cons (ev_op (EvN.ev (by walk_at "zn")) (ev_cb (ea_cons (ev_var rfl) ea_nil) cl_intB) (Op2.l (o_ixL hs2))) (ea_cons (ev_op (EvN.ev (by walk_at "zn")) (ev_cb (ea_cons (ev_var rfl) ea_nil) cl_intB) (Op2.l (o_ixL hm2))) (ea_cons (ev_var rfl) ea_nil))))) ⟨hsz1.1, hmn1.1, by show mn ≤ 1000; omega, htop1.1⟩ (by show Res.own (oPair (sizeN ds 40 sz) ((edgesN ds 40 (sizeN ds 40 sz) mn top).map eE)) = _; rw [hes, hn]) (by show 5 < 17; decide)) ?_
  refine Ex.seq (Ex.setN (i := 6) (ds := es.map eE) (by walk_at "zn") (by show 6 < 17; decide)) (Ex.freeze 6 rfl ?_)
  refine Ex.seq (Ex.set (i := 7) (R := netR T n es) (ev_make (F := netI T) (n, es) (ea_cons (ev_var rfl) (ea_cons (ev_o rfl) ea_nil)) trivial (netI_ok T F.good))) ?_
  refine Ex.seq (Ex.append (i := 5) (ds := es.map eE) (d := .tuple [.int 0, .int 0, .int 0]) rfl (by walk_at "ze") (by rw [List.length_map]; omega) rfl) ?_
  refine Ex.of (ρ' := [.b (pu (scR K xs)), .o (oL (ds.map .int)), .p (dB b), .p (dI top), .p (dI n), .o (oL (es.map eE ++ [.tuple [.int 0, .int 0, .int 0]])), .p (dat (eEs es)), .p (netR T n es), .x, .x, .x, .x, .x, .x, .x, .x, .x]) rfl ?_
  refine Ex.seq (Ex.appNew (d := .tuple [.int 0, .int 0, .int 0]) (m_edges (ev_var rfl)) (by walk_at "ze") (by rw [List.length_map]; omega) rfl) ?_
  refine Ex.seq (Ex.appNew (d := .int 5) (m_around hle (show isVert n 0 = true by unfold isVert; rw [decide_eq_true (by omega), decide_eq_true (by omega)]; rfl) (ev_var rfl) ev_int) ev_int (by rw [List.length_map]; unfold aroundL; rw [List.length_map]; exact Nat.lt_of_le_of_lt (List.length_filter_le _ _) (by rw [List.length_zipIdx]; omega)) rfl) ?_
  refine Ex.ite (b := false) (EvT.is (et_not (et_B (c_alike F (ev_var rfl) (ev_var rfl) (ev_var rfl)))) (by rfl)) (fun z => by cases z) (fun _ => Ex.skip ?_)
  -- rows that are bad
  refine Ex.seq (ρ1 := [.b (pu (scR K xs)), .o (oL (ds.map .int)), .p (dB b), .p (dI top), .p (dI n), .o (oL (es.map eE ++ [.tuple [.int 0, .int 0, .int 0]])), .p (dat (eEs es)), .p (netR T n es), .x, .x, .x, .x, .x, .x, .x, .x, .x]) (Ex.for_ (K := K) (xs := badRows ds n es) (en := eRow) (fun _ => [.b (pu (scR K xs)), .o (oL (ds.map .int)), .p (dB b), .p (dI top), .p (dI n), .o (oL (es.map eE ++ [.tuple [.int 0, .int 0, .int 0]])), .p (dat (eEs es)), .p (netR T n es), .x, .x, .x, .x, .x, .x, .x, .x, .x]) (ei_list (Ev.s (EvN.ev (c_bad hlo hle (ev_o rfl) (ev_var rfl) (ev_var rfl))))) (Wk.refl _) ?_) ?_
  · intro pre r post e
    have sm : Sm 3 100002 (eRow r) := rows_small F r (by rw [e]; simp)
    obtain ⟨a, us⟩ := r
    have sm : Sm 3 100002 (.tuple [.int a, eEs us]) := sm
    refine ⟨[8], _, eg_name, ?_⟩
    refine Ex.of (ρ' := [.b (pu (scR K xs)), .o (oL (ds.map .int)), .p (dB b), .p (dI top), .p (dI n), .o (oL (es.map eE ++ [.tuple [.int 0, .int 0, .int 0]])), .p (dat (eEs es)), .p (netR T n es), .p (dat (.tuple [.int a, eEs us])), .x, .x, .x, .x, .x, .x, .x, .x]) rfl ?_
    refine Ex.seq (Ex.set (i := 9) (R := dat (.str (PyData.shown (.tuple [.int a, eEs us])))) (ev_cb (ea_cons (ev_var rfl) ea_nil) (cl_repr sm))) ?_
    refine Ex.ife (b := false) (EvT.is (et_or (et_test (ev_op (c_made (n := a) (es := us) (ev_op (ev_var rfl) ev_int (o_ixT rfl)) (Ev.bl (ev_op (ev_var rfl) ev_int (o_ixT rfl)))) (c_due (n := a) (es := us) (ev_op (ev_var rfl) ev_int (o_ixT rfl)) (Ev.bl (ev_op (ev_var rfl) ev_int (o_ixT rfl)))) (o_neD sh_made.shaped sh_made.shaped))) (fun _ => et_test (ev_op (ev_cb (ea_cons (ev_var rfl) ea_nil) (cl_repr sm)) (ev_var rfl) o_neS))) ?_) (fun z => by cases z) (fun _ => Ex.go (Ex.out (.k (.k (.k (.k (.k (.k (.k (.k (.x (.x (.x (.x (.x (.x (.x (.x (.x .nil))))))))))))))))) Ex.next))
    rw [sh_made.refl, decide_eq_true rfl]; rfl
  have m1 := mix_bd (ds := ds) (k := 1) (many := 9) (by decide)
  have m2 := mix_bd (ds := ds) (k := 2) (many := 9) (by decide)
  have m3 := mix_bd (ds := ds) (k := 3) (many := 2) (by decide)
  -- no vertices
  refine Ex.seq (ρ1 := [.b (pu (scR K xs)), .o (oL (ds.map .int)), .p (dB b), .p (dI top), .p (dI n), .o (oL (es.map eE ++ [.tuple [.int 0, .int 0, .int 0]])), .p (dat (eEs es)), .p (netR T n es), .x, .x, .x, .x, .x, .x, .x, .x, .x]) (Ex.for_ (K := K) (xs := [-1 - mix ds 1 9, n + mix ds 1 9]) (en := PyData.int) (fun _ => [.b (pu (scR K xs)), .o (oL (ds.map .int)), .p (dB b), .p (dI top), .p (dI n), .o (oL (es.map eE ++ [.tuple [.int 0, .int 0, .int 0]])), .p (dat (eEs es)), .p (netR T n es), .x, .x, .x, .x, .x, .x, .x, .x, .x]) (ei_list (Ev.s (EvN.ev (EvN.is (by walk_at "zn") (by rfl))))) (Wk.refl _) ?_) ?_
  · intro pre w post e
    have hw : isVert n w = false := by
      have : w ∈ [-1 - mix ds 1 9, n + mix ds 1 9] := by rw [e]; simp
      have : w < 0 ∨ n ≤ w := by
        rcases List.mem_cons.mp this with rfl | this
        · left; omega
        · rcases List.mem_cons.mp this with rfl | this
          · right; omega
          · cases this
      unfold isVert
      rcases this with h | h
      · rw [decide_eq_false (by omega)]; rfl
      · rw [decide_eq_false (p := w < n) (by omega), Bool.and_false]
    refine ⟨[10], _, eg_name, ?_⟩
    refine Ex.of (ρ' := [.b (pu (scR K xs)), .o (oL (ds.map .int)), .p (dB b), .p (dI top), .p (dI n), .o (oL (es.map eE ++ [.tuple [.int 0, .int 0, .int 0]])), .p (dat (eEs es)), .p (netR T n es), .x, .x, .p (dI w), .x, .x, .x, .x, .x, .x]) rfl ?_
    refine Ex.go (Ex.out (.k (.k (.k (.k (.k (.k (.k (.k (.x (.x (.x (.x (.x (.x (.x (.x (.x .nil))))))))))))))))) (Ex.for_ (K := K) (xs := List.range 3) (en := fun (k : Nat) => .int (k : Int)) (fun _ => [.b (pu (scR K xs)), .o (oL (ds.map .int)), .p (dB b), .p (dI top), .p (dI n), .o (oL (es.map eE ++ [.tuple [.int 0, .int 0, .int 0]])), .p (dat (eEs es)), .p (netR T n es), .x, .x, .p (dI w), .x, .x, .x, .x, .x, .x]) (ei_rangeT (n := 3) (by walk_at "za") (by decide) (by decide)) (Wk.refl _) ?_))
    intro pre2 v post2 e2
    have hv : v < 3 := List.mem_range.mp (by rw [e2]; simp)
    refine ⟨[11], _, eg_name, ?_⟩
    refine Ex.of (ρ' := [.b (pu (scR K xs)), .o (oL (ds.map .int)), .p (dB b), .p (dI top), .p (dI n), .o (oL (es.map eE ++ [.tuple [.int 0, .int 0, .int 0]])), .p (dat (eEs es)), .p (netR T n es), .x, .x, .p (dI w), .p (dI (v : Int)), .x, .x, .x, .x, .x]) rfl ?_
    refine Ex.ife (b := false) (EvT.is (et_test (ev_op (c_refused hle (refE_v (by omega) hw) (ev_var rfl) (ev_var rfl) (ev_var rfl) ev_int) (Ev.is (by walk_at "ze") (by rfl)) (o_neD (sh_ref (k := .bv) (a := w)).shaped (sh_ref (k := .bv) (a := w)).shaped))) (by rw [(sh_ref (k := .bv) (a := w)).refl]; rfl)) (fun z => by cases z) (fun _ => Ex.go (Ex.out (.k (.k (.k (.k (.k (.k (.k (.k (.x (.x (.k (.x (.x (.x (.x (.x (.x .nil))))))))))))))))) Ex.next))
  -- no edges
  have hp3 : atI [PyData.int (-1), .int 5] (mix ds 3 2) = some (.int ([-1, 5].getD (mix ds 3 2).toNat 0)) := atI_ints (ds := [-1, 5]) m3.1 m3.2
  refine Ex.seq (ρ1 := [.b (pu (scR K xs)), .o (oL (ds.map .int)), .p (dB b), .p (dI top), .p (dI n), .o (oL (es.map eE ++ [.tuple [.int 0, .int 0, .int 0]])), .p (dat (eEs es)), .p (netR T n es), .x, .x, .x, .x, .x, .x, .x, .x, .x]) (Ex.for_ (K := K) (xs := [-1 - mix ds 2 9, (es.length : Int) + mix ds 2 9]) (en := PyData.int) (fun _ => [.b (pu (scR K xs)), .o (oL (ds.map .int)), .p (dB b), .p (dI top), .p (dI n), .o (oL (es.map eE ++ [.tuple [.int 0, .int 0, .int 0]])), .p (dat (eEs es)), .p (netR T n es), .x, .x, .x, .x, .x, .x, .x, .x, .x]) (ei_list (Ev.s (EvN.ev (EvN.is (by walk_at "zn") (by rw [List.length_map]; rfl))))) (Wk.refl _) ?_) ?_
  · intro pre w post e
    have hw : isVert es.length w = false := by
      have : w ∈ [-1 - mix ds 2 9, (es.length : Int) + mix ds 2 9] := by rw [e]; simp
      have : w < 0 ∨ (es.length : Int) ≤ w := by
        rcases List.mem_cons.mp this with rfl | this
        · left; omega
        · rcases List.mem_cons.mp this with rfl | this
          · right; omega
          · cases this
      unfold isVert
      rcases this with h | h
      · rw [decide_eq_false (by omega)]; rfl
      · rw [decide_eq_false (p := w < es.length) (by omega), Bool.and_false]
    refine ⟨[10], _, eg_name, ?_⟩
    refine Ex.of (ρ' := [.b (pu (scR K xs)), .o (oL (ds.map .int)), .p (dB b), .p (dI top), .p (dI n), .o (oL (es.map eE ++ [.tuple [.int 0, .int 0, .int 0]])), .p (dat (eEs es)), .p (netR T n es), .x, .x, .p (dI w), .x, .x, .x, .x, .x, .x]) rfl ?_
    refine Ex.ife (b := false) (EvT.is (et_test (ev_op (c_refused hle (refE_e hw) ev_int (ev_var rfl) (ev_var rfl) (ev_op (EvN.ev (by walk_at "zn")) (by walk_at "ze") (Op2.l (o_ixL hp3)))) (Ev.is (by walk_at "ze") (by rfl)) (o_neD (sh_ref (k := .be) (a := w)).shaped (sh_ref (k := .be) (a := w)).shaped))) (by rw [(sh_ref (k := .be) (a := w)).refl]; rfl)) (fun z => by cases z) (fun _ => Ex.go (Ex.out (.k (.k (.k (.k (.k (.k (.k (.k (.x (.x (.x (.x (.x (.x (.x (.x (.x .nil))))))))))))))))) Ex.next))
  -- other prices
  refine Ex.seq (ρ1 := [.b (pu (scR K xs)), .o (oL (ds.map .int)), .p (dB b), .p (dI top), .p (dI n), .o (oL (es.map eE ++ [.tuple [.int 0, .int 0, .int 0]])), .p (dat (eEs es)), .p (netR T n es), .x, .x, .x, .x, .x, .x, .x, .x, .x]) (Ex.for_ (K := K) (xs := List.range (min 2 es.length)) (en := fun (k : Nat) => .int (k : Int)) (fun _ => [.b (pu (scR K xs)), .o (oL (ds.map .int)), .p (dB b), .p (dI top), .p (dI n), .o (oL (es.map eE ++ [.tuple [.int 0, .int 0, .int 0]])), .p (dat (eEs es)), .p (netR T n es), .x, .x, .x, .x, .x, .x, .x, .x, .x]) ?hi (Wk.refl _) ?_) (Ex.ret (c_alike F (ev_var rfl) (ev_var rfl) (ev_var rfl)))
  case hi =>
    have e : ((if (((es.map eE).length : Nat) : Int) < 2 then (((es.map eE).length : Nat) : Int) else 2)).toNat = min 2 es.length := by rw [List.length_map]; split <;> omega
    rw [← e]
    exact ei_rangeT (by walk_at "za") (by split <;> omega) (by rw [List.length_map]; split <;> omega)
  intro pre t post e
  have ht2 : t < min 2 es.length := List.mem_range.mp (by rw [e]; simp)
  have hpos : (0 : Int) < es.length := by omega
  have hpos' : (0 : Int) < (es.map eE).length := by rw [List.length_map]; exact hpos
  obtain ⟨k, hk⟩ : ∃ k, k = mix ds (4 + t) es.length := ⟨_, rfl⟩
  have mk := mix_bd (ds := ds) (k := 4 + t) hpos
  rw [← hk] at mk
  refine ⟨[12], _, eg_name, ?_⟩
  refine Ex.seq (Ex.set (i := 13) (R := dI k) (Ev.is (by walk_at "ze") (by rw [hk, List.length_map]))) ?_
  refine Ex.of (ρ' := [.b (pu (scR K xs)), .o (oL (ds.map .int)), .p (dB b), .p (dI top), .p (dI n), .o (oL (es.map eE ++ [.tuple [.int 0, .int 0, .int 0]])), .p (dat (eEs es)), .p (netR T n es), .x, .x, .x, .x, .p (dI (t : Int)), .p (dI k), .x, .x, .x]) rfl ?_
  refine Ex.seq (ρ1 := [.b (pu (scR K xs)), .o (oL (ds.map .int)), .p (dB b), .p (dI top), .p (dI n), .o (oL (es.map eE ++ [.tuple [.int 0, .int 0, .int 0]])), .p (dat (eEs es)), .p (netR T n es), .x, .x, .x, .x, .p (dI (t : Int)), .p (dI k), .x, .x, .x]) (Ex.for_ (K := K) (xs := [-1 - mix ds 2 9, 1048577 + mix ds 2 9]) (en := PyData.int) (fun _ => [.b (pu (scR K xs)), .o (oL (ds.map .int)), .p (dB b), .p (dI top), .p (dI n), .o (oL (es.map eE ++ [.tuple [.int 0, .int 0, .int 0]])), .p (dat (eEs es)), .p (netR T n es), .x, .x, .x, .x, .p (dI (t : Int)), .p (dI k), .x, .x, .x]) (ei_list (Ev.s (EvN.ev (EvN.is (by walk_at "zn") (by rfl))))) (Wk.refl _) ?_) ?_
  · intro pre2 w post2 e2
    have hw : isPrice w = false := by
      have : w ∈ [-1 - mix ds 2 9, 1048577 + mix ds 2 9] := by rw [e2]; simp
      have : w < 0 ∨ 1048576 < w := by
        rcases List.mem_cons.mp this with rfl | this
        · left; omega
        · rcases List.mem_cons.mp this with rfl | this
          · right; omega
          · cases this
      unfold isPrice
      rcases this with h | h
      · rw [decide_eq_false (by omega)]; rfl
      · rw [decide_eq_false (p := w ≤ 1048576) (by omega), Bool.and_false]
    refine ⟨[10], _, eg_name, ?_⟩
    refine Ex.of (ρ' := [.b (pu (scR K xs)), .o (oL (ds.map .int)), .p (dB b), .p (dI top), .p (dI n), .o (oL (es.map eE ++ [.tuple [.int 0, .int 0, .int 0]])), .p (dat (eEs es)), .p (netR T n es), .x, .x, .p (dI w), .x, .p (dI (t : Int)), .p (dI k), .x, .x, .x]) rfl ?_
    refine Ex.ife (b := false) (EvT.is (et_test (ev_op (c_refused hle (refE_p F mk.1 mk.2 hw) ev_int (ev_var rfl) (ev_var rfl) (ev_var rfl)) (Ev.is (by walk_at "ze") (by rfl)) (o_neD (sh_ref (k := .bp) (a := k)).shaped (sh_ref (k := .bp) (a := k)).shaped))) (by rw [(sh_ref (k := .bp) (a := k)).refl]; rfl)) (fun z => by cases z) (fun _ => Ex.go (Ex.out (.k (.k (.k (.k (.k (.k (.k (.k (.x (.x (.x (.x (.k (.k (.x (.x (.x .nil))))))))))))))))) Ex.next))
  have m6 := mix_bd (ds := ds) (k := 6 + t) (many := 3000) (by decide)
  have m8 := mix_bd (ds := ds) (k := 8) (many := 3) (by decide)
  obtain ⟨p, hp⟩ : ∃ p : Int, p = [0, 1048576, mix ds (6 + t) 3000].getD (mix ds 8 3).toNat 0 := ⟨_, rfl⟩
  have hp2 : isPrice p = true := by
    rw [hp]
    refine getD_in (fun x : Int => isPrice x = true) _ _ _ (by decide) fun x hx => ?_
    rcases List.mem_cons.mp hx with rfl | hx
    · decide
    · rcases List.mem_cons.mp hx with rfl | hx
      · decide
      · rcases List.mem_cons.mp hx with rfl | hx
        · unfold isPrice
          rw [decide_eq_true m6.1, decide_eq_true (by omega)]; rfl
        · cases hx
  have hat : atI [PyData.int 0, .int 1048576, .int (mix ds (6 + t) 3000)] (mix ds 8 3) = some (.int p) := by rw [hp]; exact atI_ints (ds := [0, 1048576, mix ds (6 + t) 3000]) m8.1 m8.2
  have F2 : Fine n (withP es k p) := withP_fine F mk.1 mk.2 hp2
  have hkv : isVert es.length k = true := by unfold isVert; rw [decide_eq_true mk.1, decide_eq_true mk.2]; rfl
  refine Ex.seq (Ex.set (i := 14) (R := dI p) (ev_op (EvN.ev (by walk_at "zn")) (by walk_at "ze") (Op2.l (o_ixL hat)))) ?_
  refine Ex.seq (Ex.set (i := 15) (R := netR T n (withP es k p)) (m_with hle hkv F2.good (ev_var rfl) (ev_var rfl) (ev_var rfl))) ?_
  refine Ex.of (ρ' := [.b (pu (scR K xs)), .o (oL (ds.map .int)), .p (dB b), .p (dI top), .p (dI n), .o (oL (es.map eE ++ [.tuple [.int 0, .int 0, .int 0]])), .p (dat (eEs es)), .p (netR T n es), .x, .x, .x, .x, .p (dI (t : Int)), .p (dI k), .p (dI p), .p (netR T n (withP es k p)), .x]) rfl ?_
  obtain ⟨e0, he0⟩ : ∃ e, e = es.getD k.toNat (0, 0, 0) := ⟨_, rfl⟩
  have hk2 : es[k.toNat]? = some e0 := by
    rw [he0, List.getD_eq_getElem?_getD, List.getElem?_eq_getElem (by omega)]; rfl
  have hi2 : atI (es.map eE) k = some (eE e0) := atI_map mk.1 hk2
  have c1 : k ≤ (es.map eE).length := by rw [List.length_map]; omega
  have c2 : k + 1 ≤ (es.map eE).length := by rw [List.length_map]; omega
  have hdue : EvN (tOp rCat (tOp rCat (tSl (rSlL K) (tVar 6) tNoPart (tPart (tVar 13))) (tLst (tCons (tTup (tCons (tOp (rIxT K) (tOp (rIxL K) (tVar 6) (tVar 13)) (tC (V.int 0))) (tCons (tOp (rIxT K) (tOp (rIxL K) (tVar 6) (tVar 13)) (tC (V.int 1))) (tCons (tVar 14) tNil)))) tNil))) (tSl (rSlL K) (tVar 6) (tPart (tOp (rI0 fun i j => V.int (i + j)) (tVar 13) (tC (V.int 1)))) tNoPart)) [.b (pu (scR K xs)), .o (oL (ds.map .int)), .p (dB b), .p (dI top), .p (dI n), .o (oL (es.map eE ++ [.tuple [.int 0, .int 0, .int 0]])), .p (dat (eEs es)), .p (netR T n es), .x, .x, .x, .x, .p (dI (t : Int)), .p (dI k), .p (dI p), .p (netR T n (withP es k p)), .x] ((withP es k p).map eE) := by
    refine EvN.is (ev_opN (Ev.bl (EvN.ev (ev_opN (Ev.bl (EvN.ev (EvN.is (en_sl (ds := es.map eE) (Ev.bl (ev_var rfl)) eo_none (eo_some (ev_var rfl))) (cut_take mk.1 c1)))) (Ev.bl (EvN.ev (en_lstD (ds := [eE (e0.1, e0.2.1, p)]) (ed_cons (ev_tupD (ed_cons (ev_op (ev_op (ev_var rfl) (ev_var rfl) (Op2.l (o_ixL hi2))) ev_int (o_ixT rfl)) (ed_cons (ev_op (ev_op (ev_var rfl) (ev_var rfl) (Op2.l (o_ixL hi2))) ev_int (o_ixT rfl)) (ed_cons (ev_var rfl) ed_nil))) (Nat.le_of_ble_eq_true rfl)) ed_nil) (Nat.le_of_ble_eq_true rfl)))) (o_cat ?_)))) (Ev.bl (EvN.ev (EvN.is (en_sl (ds := es.map eE) (Ev.bl (ev_var rfl)) (eo_some (by walk_at "ze")) eo_none) (cut_drop (by omega) c2)))) (o_cat ?_)) ?_
    · rw [List.length_take, List.length_map]; show min _ _ + 1 ≤ _; omega
    · rw [List.length_append, List.length_take, List.length_drop, List.length_map]; show min _ _ + 1 + _ ≤ _; omega
    · unfold withP
      rw [List.map_set, ← he0, List.set_eq_take_append_cons_drop, if_pos (by rw [List.length_map]; omega), show (k + 1).toNat = k.toNat + 1 by omega, List.append_assoc]
      rfl
  refine Ex.seq (Ex.setN (i := 16) hdue (by show 16 < 17; decide)) (Ex.freeze 16 rfl ?_)
  refine Ex.ife (b := false) (EvT.is (et_not (et_B (c_alike F2 (ev_var rfl) (ev_var rfl) (ev_var rfl)))) (by rfl)) (fun z => by cases z) (fun _ => Ex.go (Ex.out (.k (.k (.k (.k (.k (.k (.k (.k (.x (.x (.x (.x (.x (.x (.x (.x (.x .nil))))))))))))))))) Ex.next))

end
end Q

set_option Elab.async false
set_option linter.all false
set_option maxRecDepth 100000
set_option maxHeartbeats 4000000
namespace Q
open PySem PySem.Spec PyProof.Rows L2 Z
theorem all_mk {P : Program} {w : World} {K : PySem.W.Frag} {h : Heap} {mg : Str → Option Value} {fa : Addr} (X : K.In h) (G : h.Ns mainGlobals mg) (hfa : mg "law" = some (.ref fa))
    {c_Network c_WebError c_OutOfRange c_BadVertex c_BadPrice c_BadEdge c_TooMany f_WebError___init__ f_need_vertex f_is_size f_is_price f_are_ends f_Network___init__ f_Network_size f_Network_edges f_Network_around f_Network_leaving f_Network_entering f_Network_other_end f_Network_with_price f_law_draws f_law_mix f_law_network f_law_made f_law_due f_law_refused f_law_alike f_law_bad_ones f_law : Addr}
    {od_WebError___init__ an_WebError___init__ od_need_vertex an_need_vertex od_is_size an_is_size od_is_price an_is_price od_are_ends an_are_ends od_Network___init__ an_Network___init__ od_Network_size an_Network_size od_Network_edges an_Network_edges od_Network_around an_Network_around od_Network_leaving an_Network_leaving od_Network_entering an_Network_entering od_Network_other_end an_Network_other_end od_Network_with_price an_Network_with_price od_law_draws an_law_draws od_law_mix an_law_mix od_law_network an_law_network od_law_made an_law_made od_law_due an_law_due od_law_refused an_law_refused od_law_alike an_law_alike od_law_bad_ones an_law_bad_ones od_law an_law : Option Addr} {sl_WebError___init__ sl_need_vertex sl_is_size sl_is_price sl_are_ends sl_Network___init__ sl_Network_size sl_Network_edges sl_Network_around sl_Network_leaving sl_Network_entering sl_Network_other_end sl_Network_with_price sl_law_draws sl_law_mix sl_law_network sl_law_made sl_law_due sl_law_refused sl_law_alike sl_law_bad_ones sl_law : Array (Option Value)} {oc_WebError___init__ kV_WebError___init__ dc_WebError___init__ pm_WebError___init__ cd_WebError___init__ ct_WebError___init__ oc_need_vertex kV_need_vertex dc_need_vertex pm_need_vertex cd_need_vertex ct_need_vertex oc_is_size kV_is_size dc_is_size pm_is_size cd_is_size ct_is_size oc_is_price kV_is_price dc_is_price pm_is_price cd_is_price ct_is_price oc_are_ends kV_are_ends dc_are_ends pm_are_ends cd_are_ends ct_are_ends oc_Network___init__ kV_Network___init__ dc_Network___init__ pm_Network___init__ cd_Network___init__ ct_Network___init__ oc_Network_size kV_Network_size dc_Network_size pm_Network_size cd_Network_size ct_Network_size oc_Network_edges kV_Network_edges dc_Network_edges pm_Network_edges cd_Network_edges ct_Network_edges oc_Network_around kV_Network_around dc_Network_around pm_Network_around cd_Network_around ct_Network_around oc_Network_leaving kV_Network_leaving dc_Network_leaving pm_Network_leaving cd_Network_leaving ct_Network_leaving oc_Network_entering kV_Network_entering dc_Network_entering pm_Network_entering cd_Network_entering ct_Network_entering oc_Network_other_end kV_Network_other_end dc_Network_other_end pm_Network_other_end cd_Network_other_end ct_Network_other_end oc_Network_with_price kV_Network_with_price dc_Network_with_price pm_Network_with_price cd_Network_with_price ct_Network_with_price oc_law_draws kV_law_draws dc_law_draws pm_law_draws cd_law_draws ct_law_draws oc_law_mix kV_law_mix dc_law_mix pm_law_mix cd_law_mix ct_law_mix oc_law_network kV_law_network dc_law_network pm_law_network cd_law_network ct_law_network oc_law_made kV_law_made dc_law_made pm_law_made cd_law_made ct_law_made oc_law_due kV_law_due dc_law_due pm_law_due cd_law_due ct_law_due oc_law_refused kV_law_refused dc_law_refused pm_law_refused cd_law_refused ct_law_refused oc_law_alike kV_law_alike dc_law_alike pm_law_alike cd_law_alike ct_law_alike oc_law_bad_ones kV_law_bad_ones dc_law_bad_ones pm_law_bad_ones cd_law_bad_ones ct_law_bad_ones oc_law kV_law dc_law pm_law cd_law ct_law : Value}
    {nm_WebError qn_WebError nm_OutOfRange qn_OutOfRange nm_BadVertex qn_BadVertex nm_BadPrice qn_BadPrice nm_BadEdge qn_BadEdge nm_TooMany qn_TooMany : Str} {N_WebError N_OutOfRange N_BadVertex N_BadPrice N_BadEdge N_TooMany : Addr} {bs_WebError bm_WebError sub_WebError bs_OutOfRange bm_OutOfRange sub_OutOfRange bs_BadVertex bm_BadVertex sub_BadVertex bs_BadPrice bm_BadPrice sub_BadPrice bs_BadEdge bm_BadEdge sub_BadEdge bs_TooMany bm_TooMany sub_TooMany : List Value} {st_WebError st_OutOfRange st_BadVertex st_BadPrice st_BadEdge st_TooMany : List Str} {ab_WebError ab_OutOfRange ab_BadVertex ab_BadPrice ab_BadEdge ab_TooMany : Bool} {col_WebError col_OutOfRange col_BadVertex col_BadPrice col_BadEdge col_TooMany : Option Bool} {dd_WebError dd_OutOfRange dd_BadVertex dd_BadPrice dd_BadEdge dd_TooMany : Option Addr} {m0_WebError m1_WebError m2_WebError m3_WebError m5_WebError m0_OutOfRange m1_OutOfRange m2_OutOfRange m3_OutOfRange m5_OutOfRange m0_BadVertex m1_BadVertex m2_BadVertex m3_BadVertex m5_BadVertex m0_BadPrice m1_BadPrice m2_BadPrice m3_BadPrice m5_BadPrice m0_BadEdge m1_BadEdge m2_BadEdge m3_BadEdge m5_BadEdge m0_TooMany m1_TooMany m2_TooMany m3_TooMany m5_TooMany : Option Value}
    {t_MOST_VERTICES t_MOST_EDGES t_MOST_PRICE : Tok}
    (aC_Network : PySem.W.nsIn K mainGlobals "Network" = some (some (.ref c_Network)))
    (aC_WebError : PySem.W.nsIn K mainGlobals "WebError" = some (some (.ref c_WebError)))
    (aC_OutOfRange : PySem.W.nsIn K mainGlobals "OutOfRange" = some (some (.ref c_OutOfRange)))
    (aC_BadVertex : PySem.W.nsIn K mainGlobals "BadVertex" = some (some (.ref c_BadVertex)))
    (aC_BadPrice : PySem.W.nsIn K mainGlobals "BadPrice" = some (some (.ref c_BadPrice)))
    (aC_BadEdge : PySem.W.nsIn K mainGlobals "BadEdge" = some (some (.ref c_BadEdge)))
    (aC_TooMany : PySem.W.nsIn K mainGlobals "TooMany" = some (some (.ref c_TooMany)))
    (a_WebError___init__ : PySem.W.findIn K (.ref c_WebError) "__init__" = some (some (.ref f_WebError___init__)))
    (ty_WebError___init__ : PySem.W.typeIn K (.ref f_WebError___init__) = some (.type "function"))
    (l_WebError___init__ : K.lookup f_WebError___init__ = some ⟨oc_WebError___init__, od_WebError___init__, .func (PySem.W.fnOf "__init__" "WebError.__init__" (defArgs s_WebError___init__) (defBody s_WebError___init__) (defScope s_WebError___init__) .none kV_WebError___init__ dc_WebError___init__ pm_WebError___init__ an_WebError___init__ cd_WebError___init__ ct_WebError___init__), sl_WebError___init__⟩)
    (cdw_WebError___init__ : PySem.W.codeIn K cd_WebError___init__ "WebError.__init__" = true)
    (kp_WebError___init__ : PySem.W.keepIn K (.ref f_WebError___init__) = true)
    (a_need_vertex : PySem.W.nsIn K mainGlobals "need_vertex" = some (some (.ref f_need_vertex)))
    (l_need_vertex : K.lookup f_need_vertex = some ⟨oc_need_vertex, od_need_vertex, .func (PySem.W.fnOf "need_vertex" "need_vertex" (defArgs s_need_vertex) (defBody s_need_vertex) (defScope s_need_vertex) .none kV_need_vertex dc_need_vertex pm_need_vertex an_need_vertex cd_need_vertex ct_need_vertex), sl_need_vertex⟩)
    (cdw_need_vertex : PySem.W.codeIn K cd_need_vertex "need_vertex" = true)
    (kp_need_vertex : PySem.W.keepIn K (.ref f_need_vertex) = true)
    (a_is_size : PySem.W.nsIn K mainGlobals "is_size" = some (some (.ref f_is_size)))
    (l_is_size : K.lookup f_is_size = some ⟨oc_is_size, od_is_size, .func (PySem.W.fnOf "is_size" "is_size" (defArgs s_is_size) (defBody s_is_size) (defScope s_is_size) .none kV_is_size dc_is_size pm_is_size an_is_size cd_is_size ct_is_size), sl_is_size⟩)
    (cdw_is_size : PySem.W.codeIn K cd_is_size "is_size" = true)
    (kp_is_size : PySem.W.keepIn K (.ref f_is_size) = true)
    (a_is_price : PySem.W.nsIn K mainGlobals "is_price" = some (some (.ref f_is_price)))
    (l_is_price : K.lookup f_is_price = some ⟨oc_is_price, od_is_price, .func (PySem.W.fnOf "is_price" "is_price" (defArgs s_is_price) (defBody s_is_price) (defScope s_is_price) .none kV_is_price dc_is_price pm_is_price an_is_price cd_is_price ct_is_price), sl_is_price⟩)
    (cdw_is_price : PySem.W.codeIn K cd_is_price "is_price" = true)
    (kp_is_price : PySem.W.keepIn K (.ref f_is_price) = true)
    (a_are_ends : PySem.W.nsIn K mainGlobals "are_ends" = some (some (.ref f_are_ends)))
    (l_are_ends : K.lookup f_are_ends = some ⟨oc_are_ends, od_are_ends, .func (PySem.W.fnOf "are_ends" "are_ends" (defArgs s_are_ends) (defBody s_are_ends) (defScope s_are_ends) .none kV_are_ends dc_are_ends pm_are_ends an_are_ends cd_are_ends ct_are_ends), sl_are_ends⟩)
    (cdw_are_ends : PySem.W.codeIn K cd_are_ends "are_ends" = true)
    (kp_are_ends : PySem.W.keepIn K (.ref f_are_ends) = true)
    (a_Network___init__ : PySem.W.findIn K (.ref c_Network) "__init__" = some (some (.ref f_Network___init__)))
    (i_Network___init__ : PySem.W.isFn K (.ref f_Network___init__) = true)
    (l_Network___init__ : K.lookup f_Network___init__ = some ⟨oc_Network___init__, od_Network___init__, .func (PySem.W.fnOf "__init__" "Network.__init__" (defArgs s_Network___init__) (defBody s_Network___init__) (defScope s_Network___init__) .none kV_Network___init__ dc_Network___init__ pm_Network___init__ an_Network___init__ cd_Network___init__ ct_Network___init__), sl_Network___init__⟩)
    (cdw_Network___init__ : PySem.W.codeIn K cd_Network___init__ "Network.__init__" = true)
    (kp_Network___init__ : PySem.W.keepIn K (.ref f_Network___init__) = true)
    (a_Network_size : PySem.W.findIn K (.ref c_Network) "size" = some (some (.ref f_Network_size)))
    (i_Network_size : PySem.W.isFn K (.ref f_Network_size) = true)
    (l_Network_size : K.lookup f_Network_size = some ⟨oc_Network_size, od_Network_size, .func (PySem.W.fnOf "size" "Network.size" (defArgs s_Network_size) (defBody s_Network_size) (defScope s_Network_size) .none kV_Network_size dc_Network_size pm_Network_size an_Network_size cd_Network_size ct_Network_size), sl_Network_size⟩)
    (cdw_Network_size : PySem.W.codeIn K cd_Network_size "Network.size" = true)
    (kp_Network_size : PySem.W.keepIn K (.ref f_Network_size) = true)
    (a_Network_edges : PySem.W.findIn K (.ref c_Network) "edges" = some (some (.ref f_Network_edges)))
    (i_Network_edges : PySem.W.isFn K (.ref f_Network_edges) = true)
    (l_Network_edges : K.lookup f_Network_edges = some ⟨oc_Network_edges, od_Network_edges, .func (PySem.W.fnOf "edges" "Network.edges" (defArgs s_Network_edges) (defBody s_Network_edges) (defScope s_Network_edges) .none kV_Network_edges dc_Network_edges pm_Network_edges an_Network_edges cd_Network_edges ct_Network_edges), sl_Network_edges⟩)
    (cdw_Network_edges : PySem.W.codeIn K cd_Network_edges "Network.edges" = true)
    (kp_Network_edges : PySem.W.keepIn K (.ref f_Network_edges) = true)
    (a_Network_around : PySem.W.findIn K (.ref c_Network) "around" = some (some (.ref f_Network_around)))
    (i_Network_around : PySem.W.isFn K (.ref f_Network_around) = true)
    (l_Network_around : K.lookup f_Network_around = some ⟨oc_Network_around, od_Network_around, .func (PySem.W.fnOf "around" "Network.around" (defArgs s_Network_around) (defBody s_Network_around) (defScope s_Network_around) .none kV_Network_around dc_Network_around pm_Network_around an_Network_around cd_Network_around ct_Network_around), sl_Network_around⟩)
    (cdw_Network_around : PySem.W.codeIn K cd_Network_around "Network.around" = true)
    (kp_Network_around : PySem.W.keepIn K (.ref f_Network_around) = true)
    (a_Network_leaving : PySem.W.findIn K (.ref c_Network) "leaving" = some (some (.ref f_Network_leaving)))
    (i_Network_leaving : PySem.W.isFn K (.ref f_Network_leaving) = true)
    (l_Network_leaving : K.lookup f_Network_leaving = some ⟨oc_Network_leaving, od_Network_leaving, .func (PySem.W.fnOf "leaving" "Network.leaving" (defArgs s_Network_leaving) (defBody s_Network_leaving) (defScope s_Network_leaving) .none kV_Network_leaving dc_Network_leaving pm_Network_leaving an_Network_leaving cd_Network_leaving ct_Network_leaving), sl_Network_leaving⟩)
    (cdw_Network_leaving : PySem.W.codeIn K cd_Network_leaving "Network.leaving" = true)
    (kp_Network_leaving : PySem.W.keepIn K (.ref f_Network_leaving) = true)
    (a_Network_entering : PySem.W.findIn K (.ref c_Network) "entering" = some (some (.ref f_Network_entering)))
    (i_Network_entering : PySem.W.isFn K (.ref f_Network_entering) = true)
    (l_Network_entering : K.lookup f_Network_entering = some ⟨oc_Network_entering, od_Network_entering, .func (PySem.W.fnOf "entering" "Network.entering" (defArgs s_Network_entering) (defBody s_Network_entering) (defScope s_Network_entering) .none kV_Network_entering dc_Network_entering pm_Network_entering an_Network_entering cd_Network_entering ct_Network_entering), sl_Network_entering⟩)
    (cdw_Network_entering : PySem.W.codeIn K cd_Network_entering "Network.entering" = true)
    (kp_Network_entering : PySem.W.keepIn K (.ref f_Network_entering) = true)
    (a_Network_other_end : PySem.W.findIn K (.ref c_Network) "other_end" = some (some (.ref f_Network_other_end)))
    (i_Network_other_end : PySem.W.isFn K (.ref f_Network_other_end) = true)
    (l_Network_other_end : K.lookup f_Network_other_end = some ⟨oc_Network_other_end, od_Network_other_end, .func (PySem.W.fnOf "other_end" "Network.other_end" (defArgs s_Network_other_end) (defBody s_Network_other_end) (defScope s_Network_other_end) .none kV_Network_other_end dc_Network_other_end pm_Network_other_end an_Network_other_end cd_Network_other_end ct_Network_other_end), sl_Network_other_end⟩)
    (cdw_Network_other_end : PySem.W.codeIn K cd_Network_other_end "Network.other_end" = true)
    (kp_Network_other_end : PySem.W.keepIn K (.ref f_Network_other_end) = true)
    (a_Network_with_price : PySem.W.findIn K (.ref c_Network) "with_price" = some (some (.ref f_Network_with_price)))
    (i_Network_with_price : PySem.W.isFn K (.ref f_Network_with_price) = true)
    (l_Network_with_price : K.lookup f_Network_with_price = some ⟨oc_Network_with_price, od_Network_with_price, .func (PySem.W.fnOf "with_price" "Network.with_price" (defArgs s_Network_with_price) (defBody s_Network_with_price) (defScope s_Network_with_price) .none kV_Network_with_price dc_Network_with_price pm_Network_with_price an_Network_with_price cd_Network_with_price ct_Network_with_price), sl_Network_with_price⟩)
    (cdw_Network_with_price : PySem.W.codeIn K cd_Network_with_price "Network.with_price" = true)
    (kp_Network_with_price : PySem.W.keepIn K (.ref f_Network_with_price) = true)
    (a_law_draws : PySem.W.nsIn K mainGlobals "_law_draws" = some (some (.ref f_law_draws)))
    (l_law_draws : K.lookup f_law_draws = some ⟨oc_law_draws, od_law_draws, .func (PySem.W.fnOf "_law_draws" "_law_draws" (defArgs s_law_draws) (defBody s_law_draws) (defScope s_law_draws) .none kV_law_draws dc_law_draws pm_law_draws an_law_draws cd_law_draws ct_law_draws), sl_law_draws⟩)
    (cdw_law_draws : PySem.W.codeIn K cd_law_draws "_law_draws" = true)
    (kp_law_draws : PySem.W.keepIn K (.ref f_law_draws) = true)
    (a_law_mix : PySem.W.nsIn K mainGlobals "_law_mix" = some (some (.ref f_law_mix)))
    (l_law_mix : K.lookup f_law_mix = some ⟨oc_law_mix, od_law_mix, .func (PySem.W.fnOf "_law_mix" "_law_mix" (defArgs s_law_mix) (defBody s_law_mix) (defScope s_law_mix) .none kV_law_mix dc_law_mix pm_law_mix an_law_mix cd_law_mix ct_law_mix), sl_law_mix⟩)
    (cdw_law_mix : PySem.W.codeIn K cd_law_mix "_law_mix" = true)
    (kp_law_mix : PySem.W.keepIn K (.ref f_law_mix) = true)
    (a_law_network : PySem.W.nsIn K mainGlobals "_law_network" = some (some (.ref f_law_network)))
    (l_law_network : K.lookup f_law_network = some ⟨oc_law_network, od_law_network, .func (PySem.W.fnOf "_law_network" "_law_network" (defArgs s_law_network) (defBody s_law_network) (defScope s_law_network) .none kV_law_network dc_law_network pm_law_network an_law_network cd_law_network ct_law_network), sl_law_network⟩)
    (cdw_law_network : PySem.W.codeIn K cd_law_network "_law_network" = true)
    (kp_law_network : PySem.W.keepIn K (.ref f_law_network) = true)
    (a_law_made : PySem.W.nsIn K mainGlobals "_law_made" = some (some (.ref f_law_made)))
    (l_law_made : K.lookup f_law_made = some ⟨oc_law_made, od_law_made, .func (PySem.W.fnOf "_law_made" "_law_made" (defArgs s_law_made) (defBody s_law_made) (defScope s_law_made) .none kV_law_made dc_law_made pm_law_made an_law_made cd_law_made ct_law_made), sl_law_made⟩)
    (cdw_law_made : PySem.W.codeIn K cd_law_made "_law_made" = true)
    (kp_law_made : PySem.W.keepIn K (.ref f_law_made) = true)
    (a_law_due : PySem.W.nsIn K mainGlobals "_law_due" = some (some (.ref f_law_due)))
    (l_law_due : K.lookup f_law_due = some ⟨oc_law_due, od_law_due, .func (PySem.W.fnOf "_law_due" "_law_due" (defArgs s_law_due) (defBody s_law_due) (defScope s_law_due) .none kV_law_due dc_law_due pm_law_due an_law_due cd_law_due ct_law_due), sl_law_due⟩)
    (cdw_law_due : PySem.W.codeIn K cd_law_due "_law_due" = true)
    (kp_law_due : PySem.W.keepIn K (.ref f_law_due) = true)
    (a_law_refused : PySem.W.nsIn K mainGlobals "_law_refused" = some (some (.ref f_law_refused)))
    (l_law_refused : K.lookup f_law_refused = some ⟨oc_law_refused, od_law_refused, .func (PySem.W.fnOf "_law_refused" "_law_refused" (defArgs s_law_refused) (defBody s_law_refused) (defScope s_law_refused) .none kV_law_refused dc_law_refused pm_law_refused an_law_refused cd_law_refused ct_law_refused), sl_law_refused⟩)
    (cdw_law_refused : PySem.W.codeIn K cd_law_refused "_law_refused" = true)
    (kp_law_refused : PySem.W.keepIn K (.ref f_law_refused) = true)
    (a_law_alike : PySem.W.nsIn K mainGlobals "_law_alike" = some (some (.ref f_law_alike)))
    (l_law_alike : K.lookup f_law_alike = some ⟨oc_law_alike, od_law_alike, .func (PySem.W.fnOf "_law_alike" "_law_alike" (defArgs s_law_alike) (defBody s_law_alike) (defScope s_law_alike) .none kV_law_alike dc_law_alike pm_law_alike an_law_alike cd_law_alike ct_law_alike), sl_law_alike⟩)
    (cdw_law_alike : PySem.W.codeIn K cd_law_alike "_law_alike" = true)
    (kp_law_alike : PySem.W.keepIn K (.ref f_law_alike) = true)
    (a_law_bad_ones : PySem.W.nsIn K mainGlobals "_law_bad_ones" = some (some (.ref f_law_bad_ones)))
    (l_law_bad_ones : K.lookup f_law_bad_ones = some ⟨oc_law_bad_ones, od_law_bad_ones, .func (PySem.W.fnOf "_law_bad_ones" "_law_bad_ones" (defArgs s_law_bad_ones) (defBody s_law_bad_ones) (defScope s_law_bad_ones) .none kV_law_bad_ones dc_law_bad_ones pm_law_bad_ones an_law_bad_ones cd_law_bad_ones ct_law_bad_ones), sl_law_bad_ones⟩)
    (cdw_law_bad_ones : PySem.W.codeIn K cd_law_bad_ones "_law_bad_ones" = true)
    (kp_law_bad_ones : PySem.W.keepIn K (.ref f_law_bad_ones) = true)
    (a_law : PySem.W.nsIn K mainGlobals "law" = some (some (.ref f_law)))
    (l_law : K.lookup f_law = some ⟨oc_law, od_law, .func (PySem.W.fnOf "law" "law" (defArgs s_law) (defBody s_law) (defScope s_law) .none kV_law dc_law pm_law an_law cd_law ct_law), sl_law⟩)
    (cdw_law : PySem.W.codeIn K cd_law "law" = true)
    (kp_law : PySem.W.keepIn K (.ref f_law) = true)
    (pg_Network : PySem.W.plainGet K c_Network Str.empty = true)
    (hd_Network : PySem.W.hasDictIn K c_Network = true)
    (po_Network : PySem.W.plainOver K c_Network = true)
    (sa_Network : PySem.W.findIn K (.ref c_Network) "__setattr__" = some (some (.builtin "object.__setattr__")))
    (mk_Network : PySem.W.makesIn K c_Network = true)
    (kc_Network : PySem.W.keepIn K (.ref c_Network) = true)
    (na_Network__size : PySem.W.findIn K (.ref c_Network) "_size" = some none)
    (na_Network__edges : PySem.W.findIn K (.ref c_Network) "_edges" = some none)
    (gt : PySem.W.specialIn K (.builtin "object.__class__") "__get__" = some (some (.builtin "getset_descriptor.__get__")))
    (tk : PySem.W.takesIn K (.builtin "object.__class__") = some true)
    (ib : PySem.W.isClsIn K c_WebError = true)
    (xL_WebError : K.lookup c_WebError = some (excClassObj nm_WebError qn_WebError c_WebError N_WebError bs_WebError bm_WebError true st_WebError sub_WebError ab_WebError col_WebError dd_WebError m0_WebError m1_WebError m2_WebError m3_WebError m5_WebError "ValueError.__new__"))
    (rv_WebError : PySem.HandSPX.refsVE bm_WebError = true)
    (sa_WebError : PySem.W.findIn K (.ref c_WebError) "__setattr__" = some (some (.builtin "object.__setattr__")))
    (ga_WebError : PySem.W.findIn K (.ref c_WebError) "__getattribute__" = some (some (.builtin "BaseException.__getattribute__")))
    (gg_WebError : PySem.W.findIn K (.ref c_WebError) "__getattr__" = some none)
    (nb_WebError : PySem.W.findIn K (.ref c_WebError) "at" = some none)
    (in_WebError : PySem.W.findIn K (.ref c_WebError) "__init__" = some (some (.ref f_WebError___init__)))
    (eC_WebError : PySem.W.subIn K (.ref c_WebError) (.type "BaseException") = some true)
    (tC_WebError : PySem.W.typeIn K (.ref c_WebError) = some (.type "type"))
    (hC_WebError : PySem.W.hasDictIn K c_WebError = true)
    (kC_WebError : PySem.W.keepIn K (.ref c_WebError) = true)
    (cl_WebError : PySem.W.findIn K (.ref c_WebError) "__class__" = some (some (.builtin "object.__class__")))
    (mr_WebError : PySem.W.mroIn K c_WebError (.type "object") = some true)
    (xL_OutOfRange : K.lookup c_OutOfRange = some (excClassObj nm_OutOfRange qn_OutOfRange c_OutOfRange N_OutOfRange bs_OutOfRange bm_OutOfRange true st_OutOfRange sub_OutOfRange ab_OutOfRange col_OutOfRange dd_OutOfRange m0_OutOfRange m1_OutOfRange m2_OutOfRange m3_OutOfRange m5_OutOfRange "ValueError.__new__"))
    (rv_OutOfRange : PySem.HandSPX.refsVE bm_OutOfRange = true)
    (sa_OutOfRange : PySem.W.findIn K (.ref c_OutOfRange) "__setattr__" = some (some (.builtin "object.__setattr__")))
    (ga_OutOfRange : PySem.W.findIn K (.ref c_OutOfRange) "__getattribute__" = some (some (.builtin "BaseException.__getattribute__")))
    (gg_OutOfRange : PySem.W.findIn K (.ref c_OutOfRange) "__getattr__" = some none)
    (nb_OutOfRange : PySem.W.findIn K (.ref c_OutOfRange) "at" = some none)
    (in_OutOfRange : PySem.W.findIn K (.ref c_OutOfRange) "__init__" = some (some (.ref f_WebError___init__)))
    (eC_OutOfRange : PySem.W.subIn K (.ref c_OutOfRange) (.type "BaseException") = some true)
    (tC_OutOfRange : PySem.W.typeIn K (.ref c_OutOfRange) = some (.type "type"))
    (hC_OutOfRange : PySem.W.hasDictIn K c_OutOfRange = true)
    (kC_OutOfRange : PySem.W.keepIn K (.ref c_OutOfRange) = true)
    (cl_OutOfRange : PySem.W.findIn K (.ref c_OutOfRange) "__class__" = some (some (.builtin "object.__class__")))
    (mr_OutOfRange : PySem.W.mroIn K c_OutOfRange (.type "object") = some true)
    (sb_OutOfRange : PySem.W.subIn K (.ref c_OutOfRange) (.ref c_WebError) = some true)
    (is_OutOfRange_OutOfRange : PySem.W.kitOne K (.ref c_OutOfRange) (.ref c_OutOfRange) = some true)
    (is_OutOfRange_BadVertex : PySem.W.kitOne K (.ref c_OutOfRange) (.ref c_BadVertex) = some false)
    (is_OutOfRange_BadPrice : PySem.W.kitOne K (.ref c_OutOfRange) (.ref c_BadPrice) = some false)
    (is_OutOfRange_BadEdge : PySem.W.kitOne K (.ref c_OutOfRange) (.ref c_BadEdge) = some false)
    (is_OutOfRange_TooMany : PySem.W.kitOne K (.ref c_OutOfRange) (.ref c_TooMany) = some false)
    (xL_BadVertex : K.lookup c_BadVertex = some (excClassObj nm_BadVertex qn_BadVertex c_BadVertex N_BadVertex bs_BadVertex bm_BadVertex true st_BadVertex sub_BadVertex ab_BadVertex col_BadVertex dd_BadVertex m0_BadVertex m1_BadVertex m2_BadVertex m3_BadVertex m5_BadVertex "ValueError.__new__"))
    (rv_BadVertex : PySem.HandSPX.refsVE bm_BadVertex = true)
    (sa_BadVertex : PySem.W.findIn K (.ref c_BadVertex) "__setattr__" = some (some (.builtin "object.__setattr__")))
    (ga_BadVertex : PySem.W.findIn K (.ref c_BadVertex) "__getattribute__" = some (some (.builtin "BaseException.__getattribute__")))
    (gg_BadVertex : PySem.W.findIn K (.ref c_BadVertex) "__getattr__" = some none)
    (nb_BadVertex : PySem.W.findIn K (.ref c_BadVertex) "at" = some none)
    (in_BadVertex : PySem.W.findIn K (.ref c_BadVertex) "__init__" = some (some (.ref f_WebError___init__)))
    (eC_BadVertex : PySem.W.subIn K (.ref c_BadVertex) (.type "BaseException") = some true)
    (tC_BadVertex : PySem.W.typeIn K (.ref c_BadVertex) = some (.type "type"))
    (hC_BadVertex : PySem.W.hasDictIn K c_BadVertex = true)
    (kC_BadVertex : PySem.W.keepIn K (.ref c_BadVertex) = true)
    (cl_BadVertex : PySem.W.findIn K (.ref c_BadVertex) "__class__" = some (some (.builtin "object.__class__")))
    (mr_BadVertex : PySem.W.mroIn K c_BadVertex (.type "object") = some true)
    (sb_BadVertex : PySem.W.subIn K (.ref c_BadVertex) (.ref c_WebError) = some true)
    (is_BadVertex_OutOfRange : PySem.W.kitOne K (.ref c_BadVertex) (.ref c_OutOfRange) = some false)
    (is_BadVertex_BadVertex : PySem.W.kitOne K (.ref c_BadVertex) (.ref c_BadVertex) = some true)
    (is_BadVertex_BadPrice : PySem.W.kitOne K (.ref c_BadVertex) (.ref c_BadPrice) = some false)
    (is_BadVertex_BadEdge : PySem.W.kitOne K (.ref c_BadVertex) (.ref c_BadEdge) = some false)
    (is_BadVertex_TooMany : PySem.W.kitOne K (.ref c_BadVertex) (.ref c_TooMany) = some false)
    (xL_BadPrice : K.lookup c_BadPrice = some (excClassObj nm_BadPrice qn_BadPrice c_BadPrice N_BadPrice bs_BadPrice bm_BadPrice true st_BadPrice sub_BadPrice ab_BadPrice col_BadPrice dd_BadPrice m0_BadPrice m1_BadPrice m2_BadPrice m3_BadPrice m5_BadPrice "ValueError.__new__"))
    (rv_BadPrice : PySem.HandSPX.refsVE bm_BadPrice = true)
    (sa_BadPrice : PySem.W.findIn K (.ref c_BadPrice) "__setattr__" = some (some (.builtin "object.__setattr__")))
    (ga_BadPrice : PySem.W.findIn K (.ref c_BadPrice) "__getattribute__" = some (some (.builtin "BaseException.__getattribute__")))
    (gg_BadPrice : PySem.W.findIn K (.ref c_BadPrice) "__getattr__" = some none)
    (nb_BadPrice : PySem.W.findIn K (.ref c_BadPrice) "at" = some none)
    (in_BadPrice : PySem.W.findIn K (.ref c_BadPrice) "__init__" = some (some (.ref f_WebError___init__)))
    (eC_BadPrice : PySem.W.subIn K (.ref c_BadPrice) (.type "BaseException") = some true)
    (tC_BadPrice : PySem.W.typeIn K (.ref c_BadPrice) = some (.type "type"))
    (hC_BadPrice : PySem.W.hasDictIn K c_BadPrice = true)
    (kC_BadPrice : PySem.W.keepIn K (.ref c_BadPrice) = true)
    (cl_BadPrice : PySem.W.findIn K (.ref c_BadPrice) "__class__" = some (some (.builtin "object.__class__")))
    (mr_BadPrice : PySem.W.mroIn K c_BadPrice (.type "object") = some true)
    (sb_BadPrice : PySem.W.subIn K (.ref c_BadPrice) (.ref c_WebError) = some true)
    (is_BadPrice_OutOfRange : PySem.W.kitOne K (.ref c_BadPrice) (.ref c_OutOfRange) = some false)
    (is_BadPrice_BadVertex : PySem.W.kitOne K (.ref c_BadPrice) (.ref c_BadVertex) = some false)
    (is_BadPrice_BadPrice : PySem.W.kitOne K (.ref c_BadPrice) (.ref c_BadPrice) = some true)
    (is_BadPrice_BadEdge : PySem.W.kitOne K (.ref c_BadPrice) (.ref c_BadEdge) = some false)
    (is_BadPrice_TooMany : PySem.W.kitOne K (.ref c_BadPrice) (.ref c_TooMany) = some false)
    (xL_BadEdge : K.lookup c_BadEdge = some (excClassObj nm_BadEdge qn_BadEdge c_BadEdge N_BadEdge bs_BadEdge bm_BadEdge true st_BadEdge sub_BadEdge ab_BadEdge col_BadEdge dd_BadEdge m0_BadEdge m1_BadEdge m2_BadEdge m3_BadEdge m5_BadEdge "ValueError.__new__"))
    (rv_BadEdge : PySem.HandSPX.refsVE bm_BadEdge = true)
    (sa_BadEdge : PySem.W.findIn K (.ref c_BadEdge) "__setattr__" = some (some (.builtin "object.__setattr__")))
    (ga_BadEdge : PySem.W.findIn K (.ref c_BadEdge) "__getattribute__" = some (some (.builtin "BaseException.__getattribute__")))
    (gg_BadEdge : PySem.W.findIn K (.ref c_BadEdge) "__getattr__" = some none)
    (nb_BadEdge : PySem.W.findIn K (.ref c_BadEdge) "at" = some none)
    (in_BadEdge : PySem.W.findIn K (.ref c_BadEdge) "__init__" = some (some (.ref f_WebError___init__)))
    (eC_BadEdge : PySem.W.subIn K (.ref c_BadEdge) (.type "BaseException") = some true)
    (tC_BadEdge : PySem.W.typeIn K (.ref c_BadEdge) = some (.type "type"))
    (hC_BadEdge : PySem.W.hasDictIn K c_BadEdge = true)
    (kC_BadEdge : PySem.W.keepIn K (.ref c_BadEdge) = true)
    (cl_BadEdge : PySem.W.findIn K (.ref c_BadEdge) "__class__" = some (some (.builtin "object.__class__")))
    (mr_BadEdge : PySem.W.mroIn K c_BadEdge (.type "object") = some true)
    (sb_BadEdge : PySem.W.subIn K (.ref c_BadEdge) (.ref c_WebError) = some true)
    (is_BadEdge_OutOfRange : PySem.W.kitOne K (.ref c_BadEdge) (.ref c_OutOfRange) = some false)
    (is_BadEdge_BadVertex : PySem.W.kitOne K (.ref c_BadEdge) (.ref c_BadVertex) = some false)
    (is_BadEdge_BadPrice : PySem.W.kitOne K (.ref c_BadEdge) (.ref c_BadPrice) = some false)
    (is_BadEdge_BadEdge : PySem.W.kitOne K (.ref c_BadEdge) (.ref c_BadEdge) = some true)
    (is_BadEdge_TooMany : PySem.W.kitOne K (.ref c_BadEdge) (.ref c_TooMany) = some false)
    (xL_TooMany : K.lookup c_TooMany = some (excClassObj nm_TooMany qn_TooMany c_TooMany N_TooMany bs_TooMany bm_TooMany true st_TooMany sub_TooMany ab_TooMany col_TooMany dd_TooMany m0_TooMany m1_TooMany m2_TooMany m3_TooMany m5_TooMany "ValueError.__new__"))
    (rv_TooMany : PySem.HandSPX.refsVE bm_TooMany = true)
    (sa_TooMany : PySem.W.findIn K (.ref c_TooMany) "__setattr__" = some (some (.builtin "object.__setattr__")))
    (ga_TooMany : PySem.W.findIn K (.ref c_TooMany) "__getattribute__" = some (some (.builtin "BaseException.__getattribute__")))
    (gg_TooMany : PySem.W.findIn K (.ref c_TooMany) "__getattr__" = some none)
    (nb_TooMany : PySem.W.findIn K (.ref c_TooMany) "at" = some none)
    (in_TooMany : PySem.W.findIn K (.ref c_TooMany) "__init__" = some (some (.ref f_WebError___init__)))
    (eC_TooMany : PySem.W.subIn K (.ref c_TooMany) (.type "BaseException") = some true)
    (tC_TooMany : PySem.W.typeIn K (.ref c_TooMany) = some (.type "type"))
    (hC_TooMany : PySem.W.hasDictIn K c_TooMany = true)
    (kC_TooMany : PySem.W.keepIn K (.ref c_TooMany) = true)
    (cl_TooMany : PySem.W.findIn K (.ref c_TooMany) "__class__" = some (some (.builtin "object.__class__")))
    (mr_TooMany : PySem.W.mroIn K c_TooMany (.type "object") = some true)
    (sb_TooMany : PySem.W.subIn K (.ref c_TooMany) (.ref c_WebError) = some true)
    (is_TooMany_OutOfRange : PySem.W.kitOne K (.ref c_TooMany) (.ref c_OutOfRange) = some false)
    (is_TooMany_BadVertex : PySem.W.kitOne K (.ref c_TooMany) (.ref c_BadVertex) = some false)
    (is_TooMany_BadPrice : PySem.W.kitOne K (.ref c_TooMany) (.ref c_BadPrice) = some false)
    (is_TooMany_BadEdge : PySem.W.kitOne K (.ref c_TooMany) (.ref c_BadEdge) = some false)
    (is_TooMany_TooMany : PySem.W.kitOne K (.ref c_TooMany) (.ref c_TooMany) = some true)
    (z_len : PySem.W.nsIn K mainGlobals "len" = some none)
    (z_range : PySem.W.nsIn K mainGlobals "range" = some none)
    (z_min : PySem.W.nsIn K mainGlobals "min" = some none)
    (z_abs : PySem.W.nsIn K mainGlobals "abs" = some none)
    (z_int : PySem.W.nsIn K mainGlobals "int" = some none)
    (z_list : PySem.W.nsIn K mainGlobals "list" = some none)
    (z_enumerate : PySem.W.nsIn K mainGlobals "enumerate" = some none)
    (z_repr : PySem.W.nsIn K mainGlobals "repr" = some none)
    (z_isinstance : PySem.W.nsIn K mainGlobals "isinstance" = some none)
    (z_ValueError : PySem.W.nsIn K mainGlobals "ValueError" = some none)
    (k_MOST_VERTICES : PySem.W.nsIn K mainGlobals "MOST_VERTICES" = some (some (.int 40 t_MOST_VERTICES)))
    (k_MOST_EDGES : PySem.W.nsIn K mainGlobals "MOST_EDGES" = some (some (.int 200 t_MOST_EDGES)))
    (k_MOST_PRICE : PySem.W.nsIn K mainGlobals "MOST_PRICE" = some (some (.int 1048576 t_MOST_PRICE)))
    : ∃ fd : FuncData, (∀ (s : Shared) (u : Value), BindsTo s fd ⟨[u], []⟩ [("script", u)]) ∧ ∀ base : Heap, K.In base → base.Ns mainGlobals mg → Z.RunAt P w K mg base (L2.CX P w) 7 fa fd ["script"] (spLaw K) := by
  have e := hfa.symm.trans (PySem.W.mg_of X G a_law)
  have e2 : f_law = fa := by cases e; rfl
  subst e2
  have F_WebError___init__ := fun_mk (st := s_WebError___init__) l_WebError___init__ cdw_WebError___init__ kp_WebError___init__
  have b_WebError___init__ := F_WebError___init__.binds (ps := ["self", "at"]) fun _ _ _ _ _ _ us hl => match us, hl with | [_, _], _ => rfl
  have F_need_vertex := fun_mk (st := s_need_vertex) l_need_vertex cdw_need_vertex kp_need_vertex
  have b_need_vertex := F_need_vertex.binds (ps := ["size", "vertex"]) fun _ _ _ _ _ _ us hl => match us, hl with | [_, _], _ => rfl
  have F_is_size := fun_mk (st := s_is_size) l_is_size cdw_is_size kp_is_size
  have b_is_size := F_is_size.binds (ps := ["size"]) fun _ _ _ _ _ _ us hl => match us, hl with | [_], _ => rfl
  have F_is_price := fun_mk (st := s_is_price) l_is_price cdw_is_price kp_is_price
  have b_is_price := F_is_price.binds (ps := ["price"]) fun _ _ _ _ _ _ us hl => match us, hl with | [_], _ => rfl
  have F_are_ends := fun_mk (st := s_are_ends) l_are_ends cdw_are_ends kp_are_ends
  have b_are_ends := F_are_ends.binds (ps := ["size", "u", "v"]) fun _ _ _ _ _ _ us hl => match us, hl with | [_, _, _], _ => rfl
  have F_Network___init__ := fun_mk (st := s_Network___init__) l_Network___init__ cdw_Network___init__ kp_Network___init__
  have b_Network___init__ := F_Network___init__.binds (ps := ["self", "size", "edges"]) fun _ _ _ _ _ _ us hl => match us, hl with | [_, _, _], _ => rfl
  have F_Network_size := fun_mk (st := s_Network_size) l_Network_size cdw_Network_size kp_Network_size
  have b_Network_size := F_Network_size.binds (ps := ["self"]) fun _ _ _ _ _ _ us hl => match us, hl with | [_], _ => rfl
  have F_Network_edges := fun_mk (st := s_Network_edges) l_Network_edges cdw_Network_edges kp_Network_edges
  have b_Network_edges := F_Network_edges.binds (ps := ["self"]) fun _ _ _ _ _ _ us hl => match us, hl with | [_], _ => rfl
  have F_Network_around := fun_mk (st := s_Network_around) l_Network_around cdw_Network_around kp_Network_around
  have b_Network_around := F_Network_around.binds (ps := ["self", "vertex"]) fun _ _ _ _ _ _ us hl => match us, hl with | [_, _], _ => rfl
  have F_Network_leaving := fun_mk (st := s_Network_leaving) l_Network_leaving cdw_Network_leaving kp_Network_leaving
  have b_Network_leaving := F_Network_leaving.binds (ps := ["self", "vertex"]) fun _ _ _ _ _ _ us hl => match us, hl with | [_, _], _ => rfl
  have F_Network_entering := fun_mk (st := s_Network_entering) l_Network_entering cdw_Network_entering kp_Network_entering
  have b_Network_entering := F_Network_entering.binds (ps := ["self", "vertex"]) fun _ _ _ _ _ _ us hl => match us, hl with | [_, _], _ => rfl
  have F_Network_other_end := fun_mk (st := s_Network_other_end) l_Network_other_end cdw_Network_other_end kp_Network_other_end
  have b_Network_other_end := F_Network_other_end.binds (ps := ["self", "number", "vertex"]) fun _ _ _ _ _ _ us hl => match us, hl with | [_, _, _], _ => rfl
  have F_Network_with_price := fun_mk (st := s_Network_with_price) l_Network_with_price cdw_Network_with_price kp_Network_with_price
  have b_Network_with_price := F_Network_with_price.binds (ps := ["self", "number", "price"]) fun _ _ _ _ _ _ us hl => match us, hl with | [_, _, _], _ => rfl
  have F_law_draws := fun_mk (st := s_law_draws) l_law_draws cdw_law_draws kp_law_draws
  have b_law_draws := F_law_draws.binds (ps := ["script"]) fun _ _ _ _ _ _ us hl => match us, hl with | [_], _ => rfl
  have F_law_mix := fun_mk (st := s_law_mix) l_law_mix cdw_law_mix kp_law_mix
  have b_law_mix := F_law_mix.binds (ps := ["draws", "k", "many"]) fun _ _ _ _ _ _ us hl => match us, hl with | [_, _, _], _ => rfl
  have F_law_network := fun_mk (st := s_law_network) l_law_network cdw_law_network kp_law_network
  have b_law_network := F_law_network.binds (ps := ["draws", "k", "sizes", "many", "top"]) fun _ _ _ _ _ _ us hl => match us, hl with | [_, _, _, _, _], _ => rfl
  have F_law_made := fun_mk (st := s_law_made) l_law_made cdw_law_made kp_law_made
  have b_law_made := F_law_made.binds (ps := ["size", "edges"]) fun _ _ _ _ _ _ us hl => match us, hl with | [_, _], _ => rfl
  have F_law_due := fun_mk (st := s_law_due) l_law_due cdw_law_due kp_law_due
  have b_law_due := F_law_due.binds (ps := ["size", "edges"]) fun _ _ _ _ _ _ us hl => match us, hl with | [_, _], _ => rfl
  have F_law_refused := fun_mk (st := s_law_refused) l_law_refused cdw_law_refused kp_law_refused
  have b_law_refused := F_law_refused.binds (ps := ["way", "network", "number", "price"]) fun _ _ _ _ _ _ us hl => match us, hl with | [_, _, _, _], _ => rfl
  have F_law_alike := fun_mk (st := s_law_alike) l_law_alike cdw_law_alike kp_law_alike
  have b_law_alike := F_law_alike.binds (ps := ["network", "size", "edges"]) fun _ _ _ _ _ _ us hl => match us, hl with | [_, _, _], _ => rfl
  have F_law_bad_ones := fun_mk (st := s_law_bad_ones) l_law_bad_ones cdw_law_bad_ones kp_law_bad_ones
  have b_law_bad_ones := F_law_bad_ones.binds (ps := ["draws", "size", "edges"]) fun _ _ _ _ _ _ us hl => match us, hl with | [_, _, _], _ => rfl
  have F_law := fun_mk (st := s_law) l_law cdw_law kp_law
  have b_law := F_law.binds (ps := ["script"]) fun _ _ _ _ _ _ us hl => match us, hl with | [_], _ => rfl
  exact ⟨PySem.W.fnOf "law" "law" (defArgs s_law) (defBody s_law) (defScope s_law) .none kV_law dc_law pm_law an_law cd_law ct_law, fun s u => .of_eq rfl, fun base _ _ => ok_law (K := K) (mg := mg) {
    f_WebError___init__ := f_WebError___init__,
    fd_WebError___init__ := PySem.W.fnOf "__init__" "WebError.__init__" (defArgs s_WebError___init__) (defBody s_WebError___init__) (defScope s_WebError___init__) .none kV_WebError___init__ dc_WebError___init__ pm_WebError___init__ an_WebError___init__ cd_WebError___init__ ct_WebError___init__,
    F_WebError___init__ := F_WebError___init__,
    b_WebError___init__ := b_WebError___init__,
    f_need_vertex := f_need_vertex,
    fd_need_vertex := PySem.W.fnOf "need_vertex" "need_vertex" (defArgs s_need_vertex) (defBody s_need_vertex) (defScope s_need_vertex) .none kV_need_vertex dc_need_vertex pm_need_vertex an_need_vertex cd_need_vertex ct_need_vertex,
    F_need_vertex := F_need_vertex,
    b_need_vertex := b_need_vertex,
    g_need_vertex := PySem.W.mg_of X G a_need_vertex,
    f_is_size := f_is_size,
    fd_is_size := PySem.W.fnOf "is_size" "is_size" (defArgs s_is_size) (defBody s_is_size) (defScope s_is_size) .none kV_is_size dc_is_size pm_is_size an_is_size cd_is_size ct_is_size,
    F_is_size := F_is_size,
    b_is_size := b_is_size,
    g_is_size := PySem.W.mg_of X G a_is_size,
    f_is_price := f_is_price,
    fd_is_price := PySem.W.fnOf "is_price" "is_price" (defArgs s_is_price) (defBody s_is_price) (defScope s_is_price) .none kV_is_price dc_is_price pm_is_price an_is_price cd_is_price ct_is_price,
    F_is_price := F_is_price,
    b_is_price := b_is_price,
    g_is_price := PySem.W.mg_of X G a_is_price,
    f_are_ends := f_are_ends,
    fd_are_ends := PySem.W.fnOf "are_ends" "are_ends" (defArgs s_are_ends) (defBody s_are_ends) (defScope s_are_ends) .none kV_are_ends dc_are_ends pm_are_ends an_are_ends cd_are_ends ct_are_ends,
    F_are_ends := F_are_ends,
    b_are_ends := b_are_ends,
    g_are_ends := PySem.W.mg_of X G a_are_ends,
    f_Network___init__ := f_Network___init__,
    fd_Network___init__ := PySem.W.fnOf "__init__" "Network.__init__" (defArgs s_Network___init__) (defBody s_Network___init__) (defScope s_Network___init__) .none kV_Network___init__ dc_Network___init__ pm_Network___init__ an_Network___init__ cd_Network___init__ ct_Network___init__,
    F_Network___init__ := F_Network___init__,
    b_Network___init__ := b_Network___init__,
    f_Network_size := f_Network_size,
    fd_Network_size := PySem.W.fnOf "size" "Network.size" (defArgs s_Network_size) (defBody s_Network_size) (defScope s_Network_size) .none kV_Network_size dc_Network_size pm_Network_size an_Network_size cd_Network_size ct_Network_size,
    F_Network_size := F_Network_size,
    b_Network_size := b_Network_size,
    f_Network_edges := f_Network_edges,
    fd_Network_edges := PySem.W.fnOf "edges" "Network.edges" (defArgs s_Network_edges) (defBody s_Network_edges) (defScope s_Network_edges) .none kV_Network_edges dc_Network_edges pm_Network_edges an_Network_edges cd_Network_edges ct_Network_edges,
    F_Network_edges := F_Network_edges,
    b_Network_edges := b_Network_edges,
    f_Network_around := f_Network_around,
    fd_Network_around := PySem.W.fnOf "around" "Network.around" (defArgs s_Network_around) (defBody s_Network_around) (defScope s_Network_around) .none kV_Network_around dc_Network_around pm_Network_around an_Network_around cd_Network_around ct_Network_around,
    F_Network_around := F_Network_around,
    b_Network_around := b_Network_around,
    f_Network_leaving := f_Network_leaving,
    fd_Network_leaving := PySem.W.fnOf "leaving" "Network.leaving" (defArgs s_Network_leaving) (defBody s_Network_leaving) (defScope s_Network_leaving) .none kV_Network_leaving dc_Network_leaving pm_Network_leaving an_Network_leaving cd_Network_leaving ct_Network_leaving,
    F_Network_leaving := F_Network_leaving,
    b_Network_leaving := b_Network_leaving,
    f_Network_entering := f_Network_entering,
    fd_Network_entering := PySem.W.fnOf "entering" "Network.entering" (defArgs s_Network_entering) (defBody s_Network_entering) (defScope s_Network_entering) .none kV_Network_entering dc_Network_entering pm_Network_entering an_Network_entering cd_Network_entering ct_Network_entering,
    F_Network_entering := F_Network_entering,
    b_Network_entering := b_Network_entering,
    f_Network_other_end := f_Network_other_end,
    fd_Network_other_end := PySem.W.fnOf "other_end" "Network.other_end" (defArgs s_Network_other_end) (defBody s_Network_other_end) (defScope s_Network_other_end) .none kV_Network_other_end dc_Network_other_end pm_Network_other_end an_Network_other_end cd_Network_other_end ct_Network_other_end,
    F_Network_other_end := F_Network_other_end,
    b_Network_other_end := b_Network_other_end,
    f_Network_with_price := f_Network_with_price,
    fd_Network_with_price := PySem.W.fnOf "with_price" "Network.with_price" (defArgs s_Network_with_price) (defBody s_Network_with_price) (defScope s_Network_with_price) .none kV_Network_with_price dc_Network_with_price pm_Network_with_price an_Network_with_price cd_Network_with_price ct_Network_with_price,
    F_Network_with_price := F_Network_with_price,
    b_Network_with_price := b_Network_with_price,
    f_law_draws := f_law_draws,
    fd_law_draws := PySem.W.fnOf "_law_draws" "_law_draws" (defArgs s_law_draws) (defBody s_law_draws) (defScope s_law_draws) .none kV_law_draws dc_law_draws pm_law_draws an_law_draws cd_law_draws ct_law_draws,
    F_law_draws := F_law_draws,
    b_law_draws := b_law_draws,
    g_law_draws := PySem.W.mg_of X G a_law_draws,
    f_law_mix := f_law_mix,
    fd_law_mix := PySem.W.fnOf "_law_mix" "_law_mix" (defArgs s_law_mix) (defBody s_law_mix) (defScope s_law_mix) .none kV_law_mix dc_law_mix pm_law_mix an_law_mix cd_law_mix ct_law_mix,
    F_law_mix := F_law_mix,
    b_law_mix := b_law_mix,
    g_law_mix := PySem.W.mg_of X G a_law_mix,
    f_law_network := f_law_network,
    fd_law_network := PySem.W.fnOf "_law_network" "_law_network" (defArgs s_law_network) (defBody s_law_network) (defScope s_law_network) .none kV_law_network dc_law_network pm_law_network an_law_network cd_law_network ct_law_network,
    F_law_network := F_law_network,
    b_law_network := b_law_network,
    g_law_network := PySem.W.mg_of X G a_law_network,
    f_law_made := f_law_made,
    fd_law_made := PySem.W.fnOf "_law_made" "_law_made" (defArgs s_law_made) (defBody s_law_made) (defScope s_law_made) .none kV_law_made dc_law_made pm_law_made an_law_made cd_law_made ct_law_made,
    F_law_made := F_law_made,
    b_law_made := b_law_made,
    g_law_made := PySem.W.mg_of X G a_law_made,
    f_law_due := f_law_due,
    fd_law_due := PySem.W.fnOf "_law_due" "_law_due" (defArgs s_law_due) (defBody s_law_due) (defScope s_law_due) .none kV_law_due dc_law_due pm_law_due an_law_due cd_law_due ct_law_due,
    F_law_due := F_law_due,
    b_law_due := b_law_due,
    g_law_due := PySem.W.mg_of X G a_law_due,
    f_law_refused := f_law_refused,
    fd_law_refused := PySem.W.fnOf "_law_refused" "_law_refused" (defArgs s_law_refused) (defBody s_law_refused) (defScope s_law_refused) .none kV_law_refused dc_law_refused pm_law_refused an_law_refused cd_law_refused ct_law_refused,
    F_law_refused := F_law_refused,
    b_law_refused := b_law_refused,
    g_law_refused := PySem.W.mg_of X G a_law_refused,
    f_law_alike := f_law_alike,
    fd_law_alike := PySem.W.fnOf "_law_alike" "_law_alike" (defArgs s_law_alike) (defBody s_law_alike) (defScope s_law_alike) .none kV_law_alike dc_law_alike pm_law_alike an_law_alike cd_law_alike ct_law_alike,
    F_law_alike := F_law_alike,
    b_law_alike := b_law_alike,
    g_law_alike := PySem.W.mg_of X G a_law_alike,
    f_law_bad_ones := f_law_bad_ones,
    fd_law_bad_ones := PySem.W.fnOf "_law_bad_ones" "_law_bad_ones" (defArgs s_law_bad_ones) (defBody s_law_bad_ones) (defScope s_law_bad_ones) .none kV_law_bad_ones dc_law_bad_ones pm_law_bad_ones an_law_bad_ones cd_law_bad_ones ct_law_bad_ones,
    F_law_bad_ones := F_law_bad_ones,
    b_law_bad_ones := b_law_bad_ones,
    g_law_bad_ones := PySem.W.mg_of X G a_law_bad_ones,
    f_law := f_law,
    fd_law := PySem.W.fnOf "law" "law" (defArgs s_law) (defBody s_law) (defScope s_law) .none kV_law dc_law pm_law an_law cd_law ct_law,
    F_law := F_law,
    b_law := b_law,
    g_law := PySem.W.mg_of X G a_law,
    c_Network := c_Network,
    g_Network := PySem.W.mg_of X G aC_Network,
    cl_Network := ⟨pg_Network, hd_Network, po_Network, sa_Network⟩,
    mk_Network := ⟨mk_Network, a_Network___init__, i_Network___init__, kc_Network⟩,
    m_Network_size := ⟨a_Network_size, i_Network_size, kp_Network_size⟩,
    m_Network_edges := ⟨a_Network_edges, i_Network_edges, kp_Network_edges⟩,
    m_Network_around := ⟨a_Network_around, i_Network_around, kp_Network_around⟩,
    m_Network_leaving := ⟨a_Network_leaving, i_Network_leaving, kp_Network_leaving⟩,
    m_Network_entering := ⟨a_Network_entering, i_Network_entering, kp_Network_entering⟩,
    m_Network_other_end := ⟨a_Network_other_end, i_Network_other_end, kp_Network_other_end⟩,
    m_Network_with_price := ⟨a_Network_with_price, i_Network_with_price, kp_Network_with_price⟩,
    na_Network__size := na_Network__size,
    na_Network__edges := na_Network__edges,
    c_WebError := c_WebError,
    x_WebError := ⟨⟨⟨_, _, _, _, _, _, _, _, _, _, _, _, _, _, _, xL_WebError, rv_WebError⟩, sa_WebError, eC_WebError, tC_WebError, kC_WebError⟩, nb_WebError, in_WebError, ty_WebError___init__, PySem.W.mg_of X G aC_WebError⟩,
    e_WebError := ⟨ga_WebError, gg_WebError, eC_WebError, hC_WebError, cl_WebError, gt, tk, mr_WebError⟩,
    ef_WebError := ⟨ga_WebError, gg_WebError, eC_WebError, hC_WebError⟩,
    c_OutOfRange := c_OutOfRange,
    x_OutOfRange := ⟨⟨⟨_, _, _, _, _, _, _, _, _, _, _, _, _, _, _, xL_OutOfRange, rv_OutOfRange⟩, sa_OutOfRange, eC_OutOfRange, tC_OutOfRange, kC_OutOfRange⟩, nb_OutOfRange, in_OutOfRange, ty_WebError___init__, PySem.W.mg_of X G aC_OutOfRange⟩,
    e_OutOfRange := ⟨ga_OutOfRange, gg_OutOfRange, eC_OutOfRange, hC_OutOfRange, cl_OutOfRange, gt, tk, mr_OutOfRange⟩,
    ef_OutOfRange := ⟨ga_OutOfRange, gg_OutOfRange, eC_OutOfRange, hC_OutOfRange⟩,
    em_OutOfRange := Z.exm_of eC_WebError ib tC_WebError sb_OutOfRange,
    is_OutOfRange_OutOfRange := is_OutOfRange_OutOfRange,
    is_OutOfRange_BadVertex := is_OutOfRange_BadVertex,
    is_OutOfRange_BadPrice := is_OutOfRange_BadPrice,
    is_OutOfRange_BadEdge := is_OutOfRange_BadEdge,
    is_OutOfRange_TooMany := is_OutOfRange_TooMany,
    c_BadVertex := c_BadVertex,
    x_BadVertex := ⟨⟨⟨_, _, _, _, _, _, _, _, _, _, _, _, _, _, _, xL_BadVertex, rv_BadVertex⟩, sa_BadVertex, eC_BadVertex, tC_BadVertex, kC_BadVertex⟩, nb_BadVertex, in_BadVertex, ty_WebError___init__, PySem.W.mg_of X G aC_BadVertex⟩,
    e_BadVertex := ⟨ga_BadVertex, gg_BadVertex, eC_BadVertex, hC_BadVertex, cl_BadVertex, gt, tk, mr_BadVertex⟩,
    ef_BadVertex := ⟨ga_BadVertex, gg_BadVertex, eC_BadVertex, hC_BadVertex⟩,
    em_BadVertex := Z.exm_of eC_WebError ib tC_WebError sb_BadVertex,
    is_BadVertex_OutOfRange := is_BadVertex_OutOfRange,
    is_BadVertex_BadVertex := is_BadVertex_BadVertex,
    is_BadVertex_BadPrice := is_BadVertex_BadPrice,
    is_BadVertex_BadEdge := is_BadVertex_BadEdge,
    is_BadVertex_TooMany := is_BadVertex_TooMany,
    c_BadPrice := c_BadPrice,
    x_BadPrice := ⟨⟨⟨_, _, _, _, _, _, _, _, _, _, _, _, _, _, _, xL_BadPrice, rv_BadPrice⟩, sa_BadPrice, eC_BadPrice, tC_BadPrice, kC_BadPrice⟩, nb_BadPrice, in_BadPrice, ty_WebError___init__, PySem.W.mg_of X G aC_BadPrice⟩,
    e_BadPrice := ⟨ga_BadPrice, gg_BadPrice, eC_BadPrice, hC_BadPrice, cl_BadPrice, gt, tk, mr_BadPrice⟩,
    ef_BadPrice := ⟨ga_BadPrice, gg_BadPrice, eC_BadPrice, hC_BadPrice⟩,
    em_BadPrice := Z.exm_of eC_WebError ib tC_WebError sb_BadPrice,
    is_BadPrice_OutOfRange := is_BadPrice_OutOfRange,
    is_BadPrice_BadVertex := is_BadPrice_BadVertex,
    is_BadPrice_BadPrice := is_BadPrice_BadPrice,
    is_BadPrice_BadEdge := is_BadPrice_BadEdge,
    is_BadPrice_TooMany := is_BadPrice_TooMany,
    c_BadEdge := c_BadEdge,
    x_BadEdge := ⟨⟨⟨_, _, _, _, _, _, _, _, _, _, _, _, _, _, _, xL_BadEdge, rv_BadEdge⟩, sa_BadEdge, eC_BadEdge, tC_BadEdge, kC_BadEdge⟩, nb_BadEdge, in_BadEdge, ty_WebError___init__, PySem.W.mg_of X G aC_BadEdge⟩,
    e_BadEdge := ⟨ga_BadEdge, gg_BadEdge, eC_BadEdge, hC_BadEdge, cl_BadEdge, gt, tk, mr_BadEdge⟩,
    ef_BadEdge := ⟨ga_BadEdge, gg_BadEdge, eC_BadEdge, hC_BadEdge⟩,
    em_BadEdge := Z.exm_of eC_WebError ib tC_WebError sb_BadEdge,
    is_BadEdge_OutOfRange := is_BadEdge_OutOfRange,
    is_BadEdge_BadVertex := is_BadEdge_BadVertex,
    is_BadEdge_BadPrice := is_BadEdge_BadPrice,
    is_BadEdge_BadEdge := is_BadEdge_BadEdge,
    is_BadEdge_TooMany := is_BadEdge_TooMany,
    c_TooMany := c_TooMany,
    x_TooMany := ⟨⟨⟨_, _, _, _, _, _, _, _, _, _, _, _, _, _, _, xL_TooMany, rv_TooMany⟩, sa_TooMany, eC_TooMany, tC_TooMany, kC_TooMany⟩, nb_TooMany, in_TooMany, ty_WebError___init__, PySem.W.mg_of X G aC_TooMany⟩,
    e_TooMany := ⟨ga_TooMany, gg_TooMany, eC_TooMany, hC_TooMany, cl_TooMany, gt, tk, mr_TooMany⟩,
    ef_TooMany := ⟨ga_TooMany, gg_TooMany, eC_TooMany, hC_TooMany⟩,
    em_TooMany := Z.exm_of eC_WebError ib tC_WebError sb_TooMany,
    is_TooMany_OutOfRange := is_TooMany_OutOfRange,
    is_TooMany_BadVertex := is_TooMany_BadVertex,
    is_TooMany_BadPrice := is_TooMany_BadPrice,
    is_TooMany_BadEdge := is_TooMany_BadEdge,
    is_TooMany_TooMany := is_TooMany_TooMany,
    z_len := PySem.W.mg_none_of X G z_len,
    z_range := PySem.W.mg_none_of X G z_range,
    z_min := PySem.W.mg_none_of X G z_min,
    z_abs := PySem.W.mg_none_of X G z_abs,
    z_int := PySem.W.mg_none_of X G z_int,
    z_list := PySem.W.mg_none_of X G z_list,
    z_enumerate := PySem.W.mg_none_of X G z_enumerate,
    z_repr := PySem.W.mg_none_of X G z_repr,
    z_isinstance := PySem.W.mg_none_of X G z_isinstance,
    z_ValueError := PySem.W.mg_none_of X G z_ValueError,
    t_MOST_VERTICES := t_MOST_VERTICES,
    k_MOST_VERTICES := PySem.W.mg_of X G k_MOST_VERTICES,
    t_MOST_EDGES := t_MOST_EDGES,
    k_MOST_EDGES := PySem.W.mg_of X G k_MOST_EDGES,
    t_MOST_PRICE := t_MOST_PRICE,
    k_MOST_PRICE := PySem.W.mg_of X G k_MOST_PRICE }⟩
theorem walk {l : PySem.W.OpenLaw} {q : Program} {loose : List Str} {XP : (Str → Option Value) → Heap → Prop} {YP : World → Heap → Prop} {d : DefRec} {K : Params → PySem.W.Frag} (hn : l.most = some 63) (hdf : d.params.defaults = [])
    (hY : ∀ (w : World) (h : Heap), YP w h → (K w.params).In h)
    (F : ∀ (w : World) (mg : Str → Option Value) (fa : Addr) (h : Heap), (K w.params).In h → h.Ns mainGlobals mg → mg d.name = some (.ref fa) →
      ∃ fd : FuncData, (∀ (s : Shared) (u : Value), BindsTo s fd ⟨[u], []⟩ [("script", u)]) ∧ ∀ base : Heap, (K w.params).In base → base.Ns mainGlobals mg → Z.RunAt l.prog w (K w.params) mg base (L2.CX l.prog w) 7 fa fd ["script"] (spLaw (K w.params))) :
    PySem.W.WalkO q loose XP YP l.row.toRowW d [] (fun f vs => PySem.call f vs) :=
  Z.walk_at (n := 63) (k := 7) (x := "script") (CX := fun w => L2.CX l.prog w) (sp := fun w => spLaw (K w.params)) hn (by decide) hdf ⟨rfl, by decide, by decide⟩ hY F
    (fun w H a ns hn hS => ⟨ns, H, [], hn, Z.Lay.nil, .cons ⟨a, rfl, hS⟩ .nil, fun G' H' v _ _ hv => by cases hv; rfl⟩)
    (fun w H s e s' z => by
      obtain ⟨_, _, _, _, _, _, _, _, _, _, _, _, z⟩ := z
      exact z)
end Q

set_option Elab.async false
open PySem PySem.W PyProof.Rows in
set_option maxRecDepth 100000 in
set_option maxHeartbeats 0 in
theorem PySem.Challenge.cw_trunkweb_k00_networks_holds : PySem.Challenge.rw_trunkweb_k00_networks.Holds := by
  w_on; o_law; k_head; (case hw => w_witness2)
  k_fill
  refine Q.walk (l := PySem.Challenge.rw_trunkweb_k00_networks) rfl rfl (fun w h Y => PySem.W.kIn_of Y) ?F
  case F =>
    intro w mg fa h KX G hmg
    refine' Q.all_mk KX G hmg ?aC_Network ?aC_WebError ?aC_OutOfRange ?aC_BadVertex ?aC_BadPrice ?aC_BadEdge ?aC_TooMany ?a_WebError___init__ ?ty_WebError___init__ ?l_WebError___init__ ?cdw_WebError___init__ ?kp_WebError___init__ ?a_need_vertex ?l_need_vertex ?cdw_need_vertex ?kp_need_vertex ?a_is_size ?l_is_size ?cdw_is_size ?kp_is_size ?a_is_price ?l_is_price ?cdw_is_price ?kp_is_price ?a_are_ends ?l_are_ends ?cdw_are_ends ?kp_are_ends ?a_Network___init__ ?i_Network___init__ ?l_Network___init__ ?cdw_Network___init__ ?kp_Network___init__ ?a_Network_size ?i_Network_size ?l_Network_size ?cdw_Network_size ?kp_Network_size ?a_Network_edges ?i_Network_edges ?l_Network_edges ?cdw_Network_edges ?kp_Network_edges ?a_Network_around ?i_Network_around ?l_Network_around ?cdw_Network_around ?kp_Network_around ?a_Network_leaving ?i_Network_leaving ?l_Network_leaving ?cdw_Network_leaving ?kp_Network_leaving ?a_Network_entering ?i_Network_entering ?l_Network_entering ?cdw_Network_entering ?kp_Network_entering ?a_Network_other_end ?i_Network_other_end ?l_Network_other_end ?cdw_Network_other_end ?kp_Network_other_end ?a_Network_with_price ?i_Network_with_price ?l_Network_with_price ?cdw_Network_with_price ?kp_Network_with_price ?a_law_draws ?l_law_draws ?cdw_law_draws ?kp_law_draws ?a_law_mix ?l_law_mix ?cdw_law_mix ?kp_law_mix ?a_law_network ?l_law_network ?cdw_law_network ?kp_law_network ?a_law_made ?l_law_made ?cdw_law_made ?kp_law_made ?a_law_due ?l_law_due ?cdw_law_due ?kp_law_due ?a_law_refused ?l_law_refused ?cdw_law_refused ?kp_law_refused ?a_law_alike ?l_law_alike ?cdw_law_alike ?kp_law_alike ?a_law_bad_ones ?l_law_bad_ones ?cdw_law_bad_ones ?kp_law_bad_ones ?a_law ?l_law ?cdw_law ?kp_law ?pg_Network ?hd_Network ?po_Network ?sa_Network ?mk_Network ?kc_Network ?na_Network__size ?na_Network__edges ?gt ?tk ?ib ?xL_WebError ?rv_WebError ?sa_WebError ?ga_WebError ?gg_WebError ?nb_WebError ?in_WebError ?eC_WebError ?tC_WebError ?hC_WebError ?kC_WebError ?cl_WebError ?mr_WebError ?xL_OutOfRange ?rv_OutOfRange ?sa_OutOfRange ?ga_OutOfRange ?gg_OutOfRange ?nb_OutOfRange ?in_OutOfRange ?eC_OutOfRange ?tC_OutOfRange ?hC_OutOfRange ?kC_OutOfRange ?cl_OutOfRange ?mr_OutOfRange ?sb_OutOfRange ?is_OutOfRange_OutOfRange ?is_OutOfRange_BadVertex ?is_OutOfRange_BadPrice ?is_OutOfRange_BadEdge ?is_OutOfRange_TooMany ?xL_BadVertex ?rv_BadVertex ?sa_BadVertex ?ga_BadVertex ?gg_BadVertex ?nb_BadVertex ?in_BadVertex ?eC_BadVertex ?tC_BadVertex ?hC_BadVertex ?kC_BadVertex ?cl_BadVertex ?mr_BadVertex ?sb_BadVertex ?is_BadVertex_OutOfRange ?is_BadVertex_BadVertex ?is_BadVertex_BadPrice ?is_BadVertex_BadEdge ?is_BadVertex_TooMany ?xL_BadPrice ?rv_BadPrice ?sa_BadPrice ?ga_BadPrice ?gg_BadPrice ?nb_BadPrice ?in_BadPrice ?eC_BadPrice ?tC_BadPrice ?hC_BadPrice ?kC_BadPrice ?cl_BadPrice ?mr_BadPrice ?sb_BadPrice ?is_BadPrice_OutOfRange ?is_BadPrice_BadVertex ?is_BadPrice_BadPrice ?is_BadPrice_BadEdge ?is_BadPrice_TooMany ?xL_BadEdge ?rv_BadEdge ?sa_BadEdge ?ga_BadEdge ?gg_BadEdge ?nb_BadEdge ?in_BadEdge ?eC_BadEdge ?tC_BadEdge ?hC_BadEdge ?kC_BadEdge ?cl_BadEdge ?mr_BadEdge ?sb_BadEdge ?is_BadEdge_OutOfRange ?is_BadEdge_BadVertex ?is_BadEdge_BadPrice ?is_BadEdge_BadEdge ?is_BadEdge_TooMany ?xL_TooMany ?rv_TooMany ?sa_TooMany ?ga_TooMany ?gg_TooMany ?nb_TooMany ?in_TooMany ?eC_TooMany ?tC_TooMany ?hC_TooMany ?kC_TooMany ?cl_TooMany ?mr_TooMany ?sb_TooMany ?is_TooMany_OutOfRange ?is_TooMany_BadVertex ?is_TooMany_BadPrice ?is_TooMany_BadEdge ?is_TooMany_TooMany ?z_len ?z_range ?z_min ?z_abs ?z_int ?z_list ?z_enumerate ?z_repr ?z_isinstance ?z_ValueError ?k_MOST_VERTICES ?k_MOST_EDGES ?k_MOST_PRICE
    (case aC_Network => k_is)
    (case aC_WebError => k_is)
    (case aC_OutOfRange => k_is)
    (case aC_BadVertex => k_is)
    (case aC_BadPrice => k_is)
    (case aC_BadEdge => k_is)
    (case aC_TooMany => k_is)
    (case a_WebError___init__ => k_is)
    (case ty_WebError___init__ => k_is)
    (case l_WebError___init__ => k_is)
    (case cdw_WebError___init__ => k_is)
    (case kp_WebError___init__ => k_is)
    (case a_need_vertex => k_is)
    (case l_need_vertex => k_is)
    (case cdw_need_vertex => k_is)
    (case kp_need_vertex => k_is)
    (case a_is_size => k_is)
    (case l_is_size => k_is)
    (case cdw_is_size => k_is)
    (case kp_is_size => k_is)
    (case a_is_price => k_is)
    (case l_is_price => k_is)
    (case cdw_is_price => k_is)
    (case kp_is_price => k_is)
    (case a_are_ends => k_is)
    (case l_are_ends => k_is)
    (case cdw_are_ends => k_is)
    (case kp_are_ends => k_is)
    (case a_Network___init__ => k_is)
    (case i_Network___init__ => k_is)
    (case l_Network___init__ => k_is)
    (case cdw_Network___init__ => k_is)
    (case kp_Network___init__ => k_is)
    (case a_Network_size => k_is)
    (case i_Network_size => k_is)
    (case l_Network_size => k_is)
    (case cdw_Network_size => k_is)
    (case kp_Network_size => k_is)
    (case a_Network_edges => k_is)
    (case i_Network_edges => k_is)
    (case l_Network_edges => k_is)
    (case cdw_Network_edges => k_is)
    (case kp_Network_edges => k_is)
    (case a_Network_around => k_is)
    (case i_Network_around => k_is)
    (case l_Network_around => k_is)
    (case cdw_Network_around => k_is)
    (case kp_Network_around => k_is)
    (case a_Network_leaving => k_is)
    (case i_Network_leaving => k_is)
    (case l_Network_leaving => k_is)
    (case cdw_Network_leaving => k_is)
    (case kp_Network_leaving => k_is)
    (case a_Network_entering => k_is)
    (case i_Network_entering => k_is)
    (case l_Network_entering => k_is)
    (case cdw_Network_entering => k_is)
    (case kp_Network_entering => k_is)
    (case a_Network_other_end => k_is)
    (case i_Network_other_end => k_is)
    (case l_Network_other_end => k_is)
    (case cdw_Network_other_end => k_is)
    (case kp_Network_other_end => k_is)
    (case a_Network_with_price => k_is)
    (case i_Network_with_price => k_is)
    (case l_Network_with_price => k_is)
    (case cdw_Network_with_price => k_is)
    (case kp_Network_with_price => k_is)
    (case a_law_draws => k_is)
    (case l_law_draws => k_is)
    (case cdw_law_draws => k_is)
    (case kp_law_draws => k_is)
    (case a_law_mix => k_is)
    (case l_law_mix => k_is)
    (case cdw_law_mix => k_is)
    (case kp_law_mix => k_is)
    (case a_law_network => k_is)
    (case l_law_network => k_is)
    (case cdw_law_network => k_is)
    (case kp_law_network => k_is)
    (case a_law_made => k_is)
    (case l_law_made => k_is)
    (case cdw_law_made => k_is)
    (case kp_law_made => k_is)
    (case a_law_due => k_is)
    (case l_law_due => k_is)
    (case cdw_law_due => k_is)
    (case kp_law_due => k_is)
    (case a_law_refused => k_is)
    (case l_law_refused => k_is)
    (case cdw_law_refused => k_is)
    (case kp_law_refused => k_is)
    (case a_law_alike => k_is)
    (case l_law_alike => k_is)
    (case cdw_law_alike => k_is)
    (case kp_law_alike => k_is)
    (case a_law_bad_ones => k_is)
    (case l_law_bad_ones => k_is)
    (case cdw_law_bad_ones => k_is)
    (case kp_law_bad_ones => k_is)
    (case a_law => k_is)
    (case l_law => k_is)
    (case cdw_law => k_is)
    (case kp_law => k_is)
    (case pg_Network => k_is)
    (case hd_Network => k_is)
    (case po_Network => k_is)
    (case sa_Network => k_is)
    (case mk_Network => k_is)
    (case kc_Network => k_is)
    (case na_Network__size => k_is)
    (case na_Network__edges => k_is)
    (case gt => k_is)
    (case tk => k_is)
    (case ib => k_is)
    (case xL_WebError => k_is)
    (case rv_WebError => first | rfl | decide +kernel)
    (case sa_WebError => k_is)
    (case ga_WebError => k_is)
    (case gg_WebError => k_is)
    (case nb_WebError => k_is)
    (case in_WebError => k_is)
    (case eC_WebError => k_is)
    (case tC_WebError => k_is)
    (case hC_WebError => k_is)
    (case kC_WebError => k_is)
    (case cl_WebError => k_is)
    (case mr_WebError => k_is)
    (case xL_OutOfRange => k_is)
    (case rv_OutOfRange => first | rfl | decide +kernel)
    (case sa_OutOfRange => k_is)
    (case ga_OutOfRange => k_is)
    (case gg_OutOfRange => k_is)
    (case nb_OutOfRange => k_is)
    (case in_OutOfRange => k_is)
    (case eC_OutOfRange => k_is)
    (case tC_OutOfRange => k_is)
    (case hC_OutOfRange => k_is)
    (case kC_OutOfRange => k_is)
    (case cl_OutOfRange => k_is)
    (case mr_OutOfRange => k_is)
    (case sb_OutOfRange => k_is)
    (case is_OutOfRange_OutOfRange => kit_is)
    (case is_OutOfRange_BadVertex => kit_is)
    (case is_OutOfRange_BadPrice => kit_is)
    (case is_OutOfRange_BadEdge => kit_is)
    (case is_OutOfRange_TooMany => kit_is)
    (case xL_BadVertex => k_is)
    (case rv_BadVertex => first | rfl | decide +kernel)
    (case sa_BadVertex => k_is)
    (case ga_BadVertex => k_is)
    (case gg_BadVertex => k_is)
    (case nb_BadVertex => k_is)
    (case in_BadVertex => k_is)
    (case eC_BadVertex => k_is)
    (case tC_BadVertex => k_is)
    (case hC_BadVertex => k_is)
    (case kC_BadVertex => k_is)
    (case cl_BadVertex => k_is)
    (case mr_BadVertex => k_is)
    (case sb_BadVertex => k_is)
    (case is_BadVertex_OutOfRange => kit_is)
    (case is_BadVertex_BadVertex => kit_is)
    (case is_BadVertex_BadPrice => kit_is)
    (case is_BadVertex_BadEdge => kit_is)
    (case is_BadVertex_TooMany => kit_is)
    (case xL_BadPrice => k_is)
    (case rv_BadPrice => first | rfl | decide +kernel)
    (case sa_BadPrice => k_is)
    (case ga_BadPrice => k_is)
    (case gg_BadPrice => k_is)
    (case nb_BadPrice => k_is)
    (case in_BadPrice => k_is)
    (case eC_BadPrice => k_is)
    (case tC_BadPrice => k_is)
    (case hC_BadPrice => k_is)
    (case kC_BadPrice => k_is)
    (case cl_BadPrice => k_is)
    (case mr_BadPrice => k_is)
    (case sb_BadPrice => k_is)
    (case is_BadPrice_OutOfRange => kit_is)
    (case is_BadPrice_BadVertex => kit_is)
    (case is_BadPrice_BadPrice => kit_is)
    (case is_BadPrice_BadEdge => kit_is)
    (case is_BadPrice_TooMany => kit_is)
    (case xL_BadEdge => k_is)
    (case rv_BadEdge => first | rfl | decide +kernel)
    (case sa_BadEdge => k_is)
    (case ga_BadEdge => k_is)
    (case gg_BadEdge => k_is)
    (case nb_BadEdge => k_is)
    (case in_BadEdge => k_is)
    (case eC_BadEdge => k_is)
    (case tC_BadEdge => k_is)
    (case hC_BadEdge => k_is)
    (case kC_BadEdge => k_is)
    (case cl_BadEdge => k_is)
    (case mr_BadEdge => k_is)
    (case sb_BadEdge => k_is)
    (case is_BadEdge_OutOfRange => kit_is)
    (case is_BadEdge_BadVertex => kit_is)
    (case is_BadEdge_BadPrice => kit_is)
    (case is_BadEdge_BadEdge => kit_is)
    (case is_BadEdge_TooMany => kit_is)
    (case xL_TooMany => k_is)
    (case rv_TooMany => first | rfl | decide +kernel)
    (case sa_TooMany => k_is)
    (case ga_TooMany => k_is)
    (case gg_TooMany => k_is)
    (case nb_TooMany => k_is)
    (case in_TooMany => k_is)
    (case eC_TooMany => k_is)
    (case tC_TooMany => k_is)
    (case hC_TooMany => k_is)
    (case kC_TooMany => k_is)
    (case cl_TooMany => k_is)
    (case mr_TooMany => k_is)
    (case sb_TooMany => k_is)
    (case is_TooMany_OutOfRange => kit_is)
    (case is_TooMany_BadVertex => kit_is)
    (case is_TooMany_BadPrice => kit_is)
    (case is_TooMany_BadEdge => kit_is)
    (case is_TooMany_TooMany => kit_is)
    (case z_len => k_is)
    (case z_range => k_is)
    (case z_min => k_is)
    (case z_abs => k_is)
    (case z_int => k_is)
    (case z_list => k_is)
    (case z_enumerate => k_is)
    (case z_repr => k_is)
    (case z_isinstance => k_is)
    (case z_ValueError => k_is)
    (case k_MOST_VERTICES => k_is)
    (case k_MOST_EDGES => k_is)
    (case k_MOST_PRICE => k_is)

