import PyProof.Rows.All
import HandS.ForMost
import HandS.Exc
import HandS.TryOnly
import HandS.ExcOwn
import HandS.ExcInit
import HandS.ExcField
import HandS.ExcIs
import HandS.WordsExc
import HandS.Wide
import KE.KExcIs
import PyProof.ReprRoads
import HandS.FStr
import HandS.StrMore
import HandS.Steps
import HandS.IsInst
import HandS.Text
import HandS.Gcd
import KE.KMathG
import KE.KMathGC
import Wide.All
import OpenK.AllK
import Wide.FinOn
import PySem.Challenge.RW_trunkweb_k55_exact_fractions
set_option Elab.async false
set_option linter.all false
set_option maxRecDepth 100000
set_option maxHeartbeats 2000000
/-! Z: what a reading comes to, with the heap parted: G what stays, L the cells that are owned. -/
namespace Z
open PySem PySem.Spec PyProof.Rows L2

theorem perm_swap {α : Type} (a b c : List α) : (a ++ (b ++ c)).Perm (b ++ (a ++ c)) := by
  have h : ((a ++ b) ++ c).Perm ((b ++ a) ++ c) := (List.perm_append_comm).append_right c
  rw [List.append_assoc, List.append_assoc] at h
  exact h
abbrev Cell := Addr × HO
/-- H is G with the owned cells L beside -/
structure Lay (G : Hp) (L : List Cell) (H : Hp) : Prop where
  off : ∀ b, (∀ c ∈ L, c.1 ≠ b) → H b = G b
  on : ∀ c ∈ L, H c.1 = some c.2 ∧ G c.1 = none
  nd : (L.map (·.1)).Nodup
theorem Lay.same {G H : Hp} {L : List Cell} (l : Lay G L H) : Same G H := fun b o e => by
  rw [l.off b fun c hc z => ?_]
  · exact e
  · have := (l.on c hc).2
    rw [z, e] at this
    cases this
theorem Lay.fresh {G H : Hp} {L : List Cell} {p : Addr} (l : Lay G L H) (h : H p = none) : ∀ c ∈ L, c.1 ≠ p := fun c hc z => by
  have := (l.on c hc).1
  rw [z, h] at this
  cases this
theorem Lay.freshG {G H : Hp} {L : List Cell} {p : Addr} (l : Lay G L H) (h : H p = none) : G p = none := by
  rw [← l.off p (l.fresh h)]
  exact h
theorem Lay.perm {G H : Hp} {L L' : List Cell} (l : Lay G L H) (q : L.Perm L') : Lay G L' H :=
  ⟨fun b hb => l.off b fun c hc => hb c (q.mem_iff.mp hc), fun c hc => l.on c (q.mem_iff.mpr hc), (q.map _).nodup_iff.mp l.nd⟩
theorem Lay.nil {H : Hp} : Lay H [] H := ⟨fun _ _ => rfl, fun _ h => (by cases h), by simp⟩
theorem Lay.grow {G H : Hp} {L : List Cell} {p : Addr} {o : HO} (l : Lay G L H) (h : H p = none) : Lay (upd G p o) L (upd H p o) := by
  have f := l.fresh h
  refine ⟨fun b hb => ?_, fun c hc => ?_, l.nd⟩
  · by_cases e : b = p
    · rw [e, upd_same, upd_same]
    · rw [upd_ne e, upd_ne e]; exact l.off b hb
  · rw [upd_ne (f c hc), upd_ne (f c hc)]; exact l.on c hc
theorem Lay.cell {G H : Hp} {L : List Cell} {p : Addr} {o : HO} (l : Lay G L H) (h : H p = none) : Lay G ((p, o) :: L) (upd H p o) := by
  have f := l.fresh h
  refine ⟨fun b hb => ?_, fun c hc => ?_, ?_⟩
  · have e : b ≠ p := fun z => hb (p, o) (List.mem_cons_self ..) z.symm
    rw [upd_ne e]
    exact l.off b fun c hc => hb c (List.mem_cons_of_mem _ hc)
  · rcases List.mem_cons.mp hc with z | z
    · subst z; exact ⟨upd_same, l.freshG h⟩
    · rw [upd_ne (f c z)]; exact l.on c z
  · rw [List.map_cons, List.nodup_cons]
    refine ⟨fun z => ?_, l.nd⟩
    obtain ⟨c, hc, e⟩ := List.mem_map.mp z
    exact f c hc e
theorem Lay.ne {G H : Hp} {L : List Cell} {p : Addr} {o : HO} (l : Lay G ((p, o) :: L) H) : ∀ c ∈ L, c.1 ≠ p := fun c hc z => by
  have := l.nd
  rw [List.map_cons, List.nodup_cons] at this
  exact this.1 (List.mem_map.mpr ⟨c, hc, z⟩)
theorem Lay.store {G H : Hp} {L : List Cell} {p : Addr} {o u : HO} (l : Lay G ((p, o) :: L) H) : Lay G ((p, u) :: L) (upd H p u) := by
  have f := l.ne
  have l0 := l.on (p, o) (List.mem_cons_self ..)
  refine ⟨fun b hb => ?_, fun c hc => ?_, by have := l.nd; simpa using this⟩
  · have e : b ≠ p := fun z => hb (p, u) (List.mem_cons_self ..) z.symm
    rw [upd_ne e]
    refine l.off b fun c hc => ?_
    rcases List.mem_cons.mp hc with z | z
    · subst z; exact fun z => e z.symm
    · exact hb c (List.mem_cons_of_mem _ z)
  · rcases List.mem_cons.mp hc with z | z
    · subst z; exact ⟨upd_same, l0.2⟩
    · rw [upd_ne (f c z)]; exact l.on c (List.mem_cons_of_mem _ z)
theorem Lay.freeze {G H : Hp} {L : List Cell} {p : Addr} {o : HO} (l : Lay G ((p, o) :: L) H) : Lay (upd G p o) L H := by
  have f := l.ne
  have l0 := l.on (p, o) (List.mem_cons_self ..)
  refine ⟨fun b hb => ?_, fun c hc => ?_, ?_⟩
  · by_cases e : b = p
    · rw [e, upd_same]; exact l0.1
    · rw [upd_ne e]
      refine l.off b fun c hc => ?_
      rcases List.mem_cons.mp hc with z | z
      · subst z; exact fun z => e z.symm
      · exact hb c z
  · rw [upd_ne (f c hc)]; exact l.on c (List.mem_cons_of_mem _ hc)
  · have := l.nd
    rw [List.map_cons, List.nodup_cons] at this
    exact this.2
theorem same_upd {G : Hp} {p : Addr} {o : HO} (h : G p = none) : Same G (upd G p o) := fun b x e => by
  rw [upd_ne (ne_of_none e h)]; exact e
theorem Lay.freezeAll {G H : Hp} : ∀ {L M : List Cell}, Lay G (L ++ M) H → ∃ G', Same G G' ∧ Lay G' M H ∧ ∀ c ∈ L, G' c.1 = some c.2
  | [], M, l => ⟨G, Same.refl G, l, fun _ h => (by cases h)⟩
  | (p, o) :: L, M, l => by
    have hp := (l.on (p, o) (List.mem_cons_self ..)).2
    have l' : Lay (upd G p o) (L ++ M) H := Lay.freeze l
    obtain ⟨G', s, l'', k⟩ := Lay.freezeAll l'
    refine ⟨G', (same_upd hp).trans s, l'', fun c hc => ?_⟩
    rcases List.mem_cons.mp hc with z | z
    · subst z; exact s _ _ upd_same
    · exact k c z

/-- a new cell taken out again -/
theorem Lay.uncell {G H : Hp} {L : List Cell} {p : Addr} {o : HO} (l : Lay G ((p, o) :: L) H) : ∃ H', H' p = none ∧ H = upd H' p o ∧ Lay G L H' := by
  refine ⟨fun b => if b = p then none else H b, if_pos rfl, ?_, fun b hb => ?_, fun c hc => ?_, ?_⟩
  · funext b
    by_cases hb : b = p
    · rw [hb, upd_same]; exact (l.on _ (List.mem_cons_self ..)).1
    · rw [upd_ne hb, if_neg hb]
  · by_cases h : b = p
    · rw [h, if_pos rfl]; exact ((l.on _ (List.mem_cons_self ..)).2).symm
    · rw [if_neg h]
      refine l.off b fun c hc => ?_
      rcases List.mem_cons.mp hc with z | z
      · subst z; exact fun z => h z.symm
      · exact hb c z
  · rw [if_neg (l.ne c hc)]; exact l.on c (List.mem_cons_of_mem _ hc)
  · have := l.nd
    rw [List.map_cons, List.nodup_cons] at this
    exact this.2

/-! ### descriptions -/
/-- a value, by what stays true as the heap grows -/
structure Rp where
  p : Hp → V → Prop
  up : ∀ {H H' : Hp} {v : V}, Same H H' → p H v → p H' v
/-- an owned thing: its address, its cells -/
structure Op where
  p : Hp → Addr → List Cell → Prop
  up : ∀ {H H' : Hp} {a : Addr} {cs : List Cell}, Same H H' → p H a cs → p H' a cs
/-- a value that may stand in a cell of somebody's: G, the cells -/
structure Bw where
  p : Hp → List Cell → V → Prop
  up : ∀ {H H' : Hp} {L L' : List Cell} {v : V}, Same H H' → (∀ c ∈ L, c ∈ L') → p H L v → p H' L' v
def pu (R : Rp) : Bw := ⟨fun G _ v => R.p G v, fun e _ h => R.up e h⟩
inductive Sl where
  | x | p (R : Rp) | o (O : Op) | b (B : Bw)
inductive Slots (G : Hp) (L0 : List Cell) : L2.St → List Sl → List Cell → Prop
  | nil : Slots G L0 [] [] []
  | x {v σ ρ L} : Slots G L0 σ ρ L → Slots G L0 (v :: σ) (.x :: ρ) L
  | p {R : Rp} {v σ ρ L} : R.p G v → Slots G L0 σ ρ L → Slots G L0 (some v :: σ) (.p R :: ρ) L
  | o {O : Op} {a cs σ ρ L} : O.p G a cs → Slots G L0 σ ρ L → Slots G L0 (some (.ref a) :: σ) (.o O :: ρ) (cs ++ L)
  | b {B : Bw} {v σ ρ L} : B.p G L0 v → Slots G L0 σ ρ L → Slots G L0 (some v :: σ) (.b B :: ρ) L
theorem Slots.up {G G' : Hp} {L0 : List Cell} (e : Same G G') : ∀ {σ ρ L}, Slots G L0 σ ρ L → Slots G' L0 σ ρ L
  | _, _, _, .nil => .nil
  | _, _, _, .x s => .x (s.up e)
  | _, _, _, .p h s => .p (Rp.up _ e h) (s.up e)
  | _, _, _, .o h s => .o (Op.up _ e h) (s.up e)
  | _, _, _, .b h s => .b (Bw.up _ e (fun _ z => z) h) (s.up e)
theorem Slots.get_p {G : Hp} {L0 : List Cell} {R : Rp} : ∀ {σ ρ L} {i : Nat}, Slots G L0 σ ρ L → ρ[i]? = some (.p R) → ∃ v, σ[i]? = some (some v) ∧ R.p G v
  | _, _, _, _, .nil, h => by simp at h
  | _, _, _, 0, .x _, h => by simp at h
  | _, _, _, 0, .p q _, h => by simp at h; subst h; exact ⟨_, rfl, q⟩
  | _, _, _, 0, .o _ _, h => by simp at h
  | _, _, _, 0, .b _ _, h => by simp at h
  | _, _, _, i + 1, .b _ s, h => s.get_p (i := i) (by simpa using h)
  | _, _, _, i + 1, .x s, h => s.get_p (i := i) (by simpa using h)
  | _, _, _, i + 1, .p _ s, h => s.get_p (i := i) (by simpa using h)
  | _, _, _, i + 1, .o _ s, h => s.get_p (i := i) (by simpa using h)
/-- the slot i is set; what it owned is freed -/
theorem Slots.set_p {G : Hp} {L0 : List Cell} {R : Rp} {v : V} (q : R.p G v) : ∀ {σ ρ L} (i : Nat), Slots G L0 σ ρ L → ∃ C L', L.Perm (C ++ L') ∧ Slots G L0 (σ.set i (some v)) (ρ.set i (.p R)) L'
  | _, _, _, _, .nil => ⟨[], [], by simp, .nil⟩
  | _, _, _, 0, .x s => ⟨[], _, by simp, .p q s⟩
  | _, _, _, 0, .p _ s => ⟨[], _, by simp, .p q s⟩
  | _, _, _, 0, .b _ s => ⟨[], _, by simp, .p q s⟩
  | _, _, _, i + 1, .b h s => by
    obtain ⟨C, L', e, s'⟩ := s.set_p q i
    exact ⟨C, L', e, .b h s'⟩
  | _, _, _, 0, .o (cs := cs) _ s => ⟨cs, _, by simp, .p q s⟩
  | _, _, _, i + 1, .x s => by
    obtain ⟨C, L', e, s'⟩ := s.set_p q i
    exact ⟨C, L', e, .x s'⟩
  | _, _, _, i + 1, .p h s => by
    obtain ⟨C, L', e, s'⟩ := s.set_p q i
    exact ⟨C, L', e, .p h s'⟩
  | _, _, _, i + 1, .o (cs := cs) h s => by
    obtain ⟨C, L', e, s'⟩ := s.set_p q i
    refine ⟨C, cs ++ L', ?_, .o h s'⟩
    refine (e.append_left cs).trans ?_
    rw [← List.append_assoc, ← List.append_assoc]
    exact (List.perm_append_comm).append_right L'
theorem Slots.set_o {G : Hp} {L0 : List Cell} {O : Op} {a : Addr} {cs : List Cell} (q : O.p G a cs) : ∀ {σ ρ L} (i : Nat), i < σ.length → Slots G L0 σ ρ L → ∃ C L', L.Perm (C ++ L') ∧ ∃ L'', Slots G L0 (σ.set i (some (.ref a))) (ρ.set i (.o O)) L'' ∧ L''.Perm (cs ++ L')
  | _, _, _, _, h, .nil => by simp at h
  | _, _, _, 0, _, .x s => ⟨[], _, by simp, _, .o q s, .refl _⟩
  | _, _, _, 0, _, .p _ s => ⟨[], _, by simp, _, .o q s, .refl _⟩
  | _, _, _, 0, _, .b _ s => ⟨[], _, by simp, _, .o q s, .refl _⟩
  | _, _, _, i + 1, h, .b h1 s => by
    obtain ⟨C, L', e, L'', s', e'⟩ := s.set_o q i (by simpa using h)
    exact ⟨C, L', e, L'', .b h1 s', e'⟩
  | _, _, _, 0, _, .o (cs := ds) _ s => ⟨ds, _, by simp, _, .o q s, .refl _⟩
  | _, _, _, i + 1, h, .x s => by
    obtain ⟨C, L', e, L'', s', e'⟩ := s.set_o q i (by simpa using h)
    exact ⟨C, L', e, L'', .x s', e'⟩
  | _, _, _, i + 1, h, .p h1 s => by
    obtain ⟨C, L', e, L'', s', e'⟩ := s.set_o q i (by simpa using h)
    exact ⟨C, L', e, L'', .p h1 s', e'⟩
  | _, _, _, i + 1, h, .o (cs := ds) h1 s => by
    obtain ⟨C, L', e, L'', s', e'⟩ := s.set_o q i (by simpa using h)
    refine ⟨C, ds ++ L', ?_, ds ++ L'', .o h1 s', ?_⟩
    · refine (e.append_left ds).trans ?_
      rw [← List.append_assoc, ← List.append_assoc]
      exact (List.perm_append_comm).append_right L'
    · refine (e'.append_left ds).trans ?_
      rw [← List.append_assoc, ← List.append_assoc]
      exact (List.perm_append_comm).append_right L'
/-- the owned thing at slot i, and how it may change -/
theorem Slots.get_o {G : Hp} {L0 : List Cell} {O : Op} : ∀ {σ ρ L} {i : Nat}, Slots G L0 σ ρ L → ρ[i]? = some (.o O) → ∃ a cs M, σ[i]? = some (some (.ref a)) ∧ O.p G a cs ∧ L.Perm (cs ++ M) ∧
    (∀ (O' : Op) (cs' : List Cell), O'.p G a cs' → ∃ L', Slots G L0 σ (ρ.set i (.o O')) L' ∧ L'.Perm (cs' ++ M)) ∧ (∀ (G' : Hp) (R : Rp), Same G G' → R.p G' (.ref a) → Slots G' L0 σ (ρ.set i (.p R)) M)
  | _, _, _, _, .nil, h => by simp at h
  | _, _, _, 0, .x _, h => by simp at h
  | _, _, _, 0, .p _ _, h => by simp at h
  | _, _, _, 0, .b _ _, h => by simp at h
  | _, _, _, i + 1, .b q s, h => by
    obtain ⟨a, cs, M, h1, h2, h3, h4, h5⟩ := s.get_o (i := i) (by simpa using h)
    exact ⟨a, cs, M, by simpa using h1, h2, h3, fun O' cs' q' => by
      obtain ⟨L', s', e⟩ := h4 O' cs' q'
      exact ⟨L', .b q s', e⟩, fun G' R e r => .b (Bw.up _ e (fun _ z => z) q) (h5 G' R e r)⟩
  | _, _, _, 0, .o (a := a) (cs := cs) (L := M) q s, h => by
    simp at h; subst h
    exact ⟨a, cs, M, rfl, q, .refl _, fun O' cs' q' => ⟨_, .o q' s, .refl _⟩, fun G' R e r => .p r (s.up e)⟩
  | _, _, _, i + 1, .x s, h => by
    obtain ⟨a, cs, M, h1, h2, h3, h4, h5⟩ := s.get_o (i := i) (by simpa using h)
    exact ⟨a, cs, M, by simpa using h1, h2, h3, fun O' cs' q' => by
      obtain ⟨L', s', e⟩ := h4 O' cs' q'
      exact ⟨L', .x s', e⟩, fun G' R e r => .x (h5 G' R e r)⟩
  | _, _, _, i + 1, .p q s, h => by
    obtain ⟨a, cs, M, h1, h2, h3, h4, h5⟩ := s.get_o (i := i) (by simpa using h)
    exact ⟨a, cs, M, by simpa using h1, h2, h3, fun O' cs' q' => by
      obtain ⟨L', s', e⟩ := h4 O' cs' q'
      exact ⟨L', .p q s', e⟩, fun G' R e r => .p (Rp.up _ e q) (h5 G' R e r)⟩
  | _, _, _, i + 1, .o (cs := ds) q s, h => by
    obtain ⟨a, cs, M, h1, h2, h3, h4, h5⟩ := s.get_o (i := i) (by simpa using h)
    refine ⟨a, cs, ds ++ M, by simpa using h1, h2, ?_, fun O' cs' q' => ?_, fun G' R e r => .o (Op.up _ e q) (h5 G' R e r)⟩
    · refine (h3.append_left ds).trans ?_
      rw [← List.append_assoc, ← List.append_assoc]
      exact (List.perm_append_comm).append_right M
    · obtain ⟨L', s', e⟩ := h4 O' cs' q'
      refine ⟨ds ++ L', .o q s', ?_⟩
      refine (e.append_left ds).trans ?_
      rw [← List.append_assoc, ← List.append_assoc]
      exact (List.perm_append_comm).append_right M
theorem Slots.len {G : Hp} {L0 : List Cell} : ∀ {σ ρ L}, Slots G L0 σ ρ L → σ.length = ρ.length
  | _, _, _, .nil => rfl
  | _, _, _, .x s => by simp [s.len]
  | _, _, _, .p _ s => by simp [s.len]
  | _, _, _, .o _ s => by simp [s.len]
  | _, _, _, .b _ s => by simp [s.len]

theorem Slots.get_b {G : Hp} {L0 : List Cell} {B : Bw} : ∀ {σ ρ L} {i : Nat}, Slots G L0 σ ρ L → ρ[i]? = some (.b B) → ∃ v, σ[i]? = some (some v) ∧ B.p G L0 v
  | _, _, _, _, .nil, h => by simp at h
  | _, _, _, 0, .x _, h => by simp at h
  | _, _, _, 0, .p q _, h => by simp at h
  | _, _, _, 0, .o _ _, h => by simp at h
  | _, _, _, 0, .b q _, h => by simp at h; subst h; exact ⟨_, rfl, q⟩
  | _, _, _, i + 1, .b _ s, h => s.get_b (i := i) (by simpa using h)
  | _, _, _, i + 1, .x s, h => s.get_b (i := i) (by simpa using h)
  | _, _, _, i + 1, .p _ s, h => s.get_b (i := i) (by simpa using h)
  | _, _, _, i + 1, .o _ s, h => s.get_b (i := i) (by simpa using h)
/-- less is told -/
inductive Wk : List Sl → List Sl → Prop
  | nil : Wk [] []
  | x {s ρ ρ'} : Wk ρ ρ' → Wk (s :: ρ) (.x :: ρ')
  | k {s ρ ρ'} : Wk ρ ρ' → Wk (s :: ρ) (s :: ρ')
theorem Wk.refl : ∀ ρ, Wk ρ ρ
  | [] => .nil
  | _ :: ρ => .k (Wk.refl ρ)
theorem Slots.weak {G : Hp} {L0 : List Cell} : ∀ {σ ρ ρ' L}, Slots G L0 σ ρ L → Wk ρ ρ' → ∃ C L', L.Perm (C ++ L') ∧ Slots G L0 σ ρ' L'
  | _, _, _, _, .nil, .nil => ⟨[], [], by simp, .nil⟩
  | _, _, _, _, .x s, .x w | _, _, _, _, .x s, .k w => by
    obtain ⟨C, L', e, s'⟩ := s.weak w
    exact ⟨C, L', e, .x s'⟩
  | _, _, _, _, .p h s, .x w | _, _, _, _, .b h s, .x w => by
    obtain ⟨C, L', e, s'⟩ := s.weak w
    exact ⟨C, L', e, .x s'⟩
  | _, _, _, _, .p h s, .k w => by
    obtain ⟨C, L', e, s'⟩ := s.weak w
    exact ⟨C, L', e, .p h s'⟩
  | _, _, _, _, .b h s, .k w => by
    obtain ⟨C, L', e, s'⟩ := s.weak w
    exact ⟨C, L', e, .b h s'⟩
  | _, _, _, _, .o (cs := cs) h s, .x w => by
    obtain ⟨C, L', e, s'⟩ := s.weak w
    refine ⟨cs ++ C, L', ?_, .x s'⟩
    rw [List.append_assoc]
    exact e.append_left cs
  | _, _, _, _, .o (cs := cs) h s, .k w => by
    obtain ⟨C, L', e, s'⟩ := s.weak w
    exact ⟨C, cs ++ L', (e.append_left cs).trans (perm_swap _ _ _), .o h s'⟩

/-- the state: G, the slots, the callers' cells L0 -/
def Stt (G : Hp) (ρ : List Sl) (σ : L2.St) (L0 : List Cell) (H : Hp) : Prop := ∃ L, Slots G L0 σ ρ L ∧ Lay G (L ++ L0) H
section
variable {G H : Hp} {ρ : List Sl} {σ : L2.St} {L0 : List Cell}
theorem Stt.same (s : Stt G ρ σ L0 H) : Same G H := by
  obtain ⟨L, _, l⟩ := s
  exact l.same
theorem Stt.len (s : Stt G ρ σ L0 H) : σ.length = ρ.length := by
  obtain ⟨L, h, _⟩ := s
  exact h.len
theorem Stt.get_p (s : Stt G ρ σ L0 H) {R : Rp} {i : Nat} (h : ρ[i]? = some (.p R)) : ∃ v, σ[i]? = some (some v) ∧ R.p G v := by
  obtain ⟨L, q, _⟩ := s
  exact q.get_p h
theorem Stt.get_b (s : Stt G ρ σ L0 H) {B : Bw} {i : Nat} (h : ρ[i]? = some (.b B)) : ∃ v, σ[i]? = some (some v) ∧ B.p G L0 v := by
  obtain ⟨L, q, _⟩ := s
  exact q.get_b h
theorem Stt.weak (s : Stt G ρ σ L0 H) {ρ' : List Sl} (w : Wk ρ ρ') : ∃ G', Same G G' ∧ Stt G' ρ' σ L0 H := by
  obtain ⟨L, q, l⟩ := s
  obtain ⟨C, L', e, q'⟩ := q.weak w
  have l' : Lay G (C ++ (L' ++ L0)) H := by
    rw [← List.append_assoc]
    exact l.perm (e.append_right L0)
  obtain ⟨G', e', l'', _⟩ := l'.freezeAll
  exact ⟨G', e', L', q'.up e', l''⟩
theorem Stt.fin (s : Stt G ρ σ L0 H) : ∃ G', Same G G' ∧ Lay G' L0 H := by
  obtain ⟨L, q, l⟩ := s
  obtain ⟨G', e', l'', _⟩ := l.freezeAll
  exact ⟨G', e', l''⟩
theorem Stt.grow (s : Stt G ρ σ L0 H) {p : Addr} {o : HO} (h : H p = none) : Same G (upd G p o) ∧ Stt (upd G p o) ρ σ L0 (upd H p o) := by
  obtain ⟨L, q, l⟩ := s
  have e := same_upd (o := o) (l.freshG h)
  exact ⟨e, L, q.up e, l.grow h⟩
theorem Stt.set_p (s : Stt G ρ σ L0 H) {R : Rp} {v : V} (r : R.p G v) (i : Nat) : ∃ G', Same G G' ∧ Stt G' (ρ.set i (.p R)) (σ.set i (some v)) L0 H := by
  obtain ⟨L, q, l⟩ := s
  obtain ⟨C, L', e, q'⟩ := q.set_p r i
  have l' : Lay G (C ++ (L' ++ L0)) H := by
    rw [← List.append_assoc]
    exact l.perm (e.append_right L0)
  obtain ⟨G', e', l'', _⟩ := l'.freezeAll
  exact ⟨G', e', L', q'.up e', l''⟩
/-- a new owned thing, its cells already laid beside -/
theorem Stt.set_o (s : Stt G ρ σ L0 H) {O : Op} {a : Addr} {cs : List Cell} {H' : Hp} (r : O.p G a cs) (i : Nat) (hi : i < ρ.length) (hl : ∀ M, Lay G M H → Lay G (cs ++ M) H') : ∃ G', Same G G' ∧ Stt G' (ρ.set i (.o O)) (σ.set i (some (.ref a))) L0 H' := by
  obtain ⟨L, q, l⟩ := s
  obtain ⟨C, L', e, L'', q', e'⟩ := q.set_o r i (by rw [q.len]; exact hi)
  have l1 : Lay G (cs ++ (C ++ (L' ++ L0))) H' := hl _ (by
    rw [← List.append_assoc]
    exact l.perm (e.append_right L0))
  have l2 : Lay G (C ++ (L'' ++ L0)) H' := l1.perm (by
    refine (perm_swap _ _ _).trans (List.Perm.append_left C ?_)
    rw [← List.append_assoc]
    exact (e'.symm).append_right L0)
  obtain ⟨G', e3, l3, _⟩ := l2.freezeAll
  exact ⟨G', e3, L'', q'.up e3, l3⟩
theorem Stt.get_o (s : Stt G ρ σ L0 H) {O : Op} {i : Nat} (h : ρ[i]? = some (.o O)) : ∃ a cs, σ[i]? = some (some (.ref a)) ∧ O.p G a cs ∧ (∀ c ∈ cs, H c.1 = some c.2) ∧
    (∀ (O' : Op) (cs' : List Cell) (H' : Hp), O'.p G a cs' → (∀ M, Lay G (cs ++ M) H → Lay G (cs' ++ M) H') → Stt G (ρ.set i (.o O')) σ L0 H') ∧
    (∀ (R : Rp), (∀ G', Same G G' → (∀ c ∈ cs, G' c.1 = some c.2) → R.p G' (.ref a)) → ∃ G', Same G G' ∧ Stt G' (ρ.set i (.p R)) σ L0 H) := by
  obtain ⟨L, q, l⟩ := s
  obtain ⟨a, cs, M, h1, h2, h3, h4, h5⟩ := q.get_o h
  have l1 : Lay G (cs ++ (M ++ L0)) H := by
    rw [← List.append_assoc]
    exact l.perm (h3.append_right L0)
  refine ⟨a, cs, h1, h2, fun c hc => (l1.on c (List.mem_append_left _ hc)).1, fun O' cs' H' q' hl => ?_, fun R hR => ?_⟩
  · obtain ⟨L', s', e⟩ := h4 O' cs' q'
    refine ⟨L', s', (hl _ l1).perm ?_⟩
    rw [← List.append_assoc]
    exact (e.symm).append_right L0
  · obtain ⟨G', e', l'', k⟩ := l1.freezeAll
    exact ⟨G', e', M, h5 G' R e' (hR G' e' k), l''⟩
end
end Z

set_option Elab.async false
set_option linter.all false
set_option maxRecDepth 100000
set_option maxHeartbeats 2000000
/-! Zb: data, what an expression, a test, a statement comes to. -/
namespace Z
open PySem PySem.Spec PyProof.Rows L2
section
variable {K : PySem.W.Frag}
theorem sqT_up {H H' : Hp} {a : Addr} {xs : List V} (e : Same H H') (h : SqT K H a xs) : SqT K H' a xs := by
  rcases h with (h | ⟨o, h⟩) | h
  · exact .inl (.inl (e _ _ h))
  · exact .inl (.inr ⟨o, e _ _ h⟩)
  · exact .inr h
mutual
/-- data at a value: every list and tuple stands in H -/
inductive Dq (H : Hp) : V → PyData → Prop
  | non : Dq H .non .none
  | bl (b : Bool) : Dq H (.bl b) (.bool b)
  | int (i : Int) : Dq H (.int i) (.int i)
  | str (x : Str) : Dq H (.str x) (.str x)
  | lst {a : Addr} {xs : List V} {ds : List PyData} : H a = some (.lst xs) → DqAll H xs ds → Dq H (.ref a) (.list ds)
  | tup {a : Addr} {xs : List V} {ds : List PyData} : H a = some (.tup xs) → DqAll H xs ds → Dq H (.ref a) (.tuple ds)
inductive DqAll (H : Hp) : List V → List PyData → Prop
  | nil : DqAll H [] []
  | cons {v : V} {vs : List V} {d : PyData} {ds : List PyData} : Dq H v d → DqAll H vs ds → DqAll H (v :: vs) (d :: ds)
end
mutual
theorem dp_up {H H' : Hp} (e : Same H H') : ∀ {v : V} {d : PyData}, Dq H v d → Dq H' v d
  | _, _, .non => .non
  | _, _, .bl b => .bl b
  | _, _, .int i => .int i
  | _, _, .str x => .str x
  | _, _, .lst h a => .lst (e _ _ h) (dpAll_up e a)
  | _, _, .tup h a => .tup (e _ _ h) (dpAll_up e a)
theorem dpAll_up {H H' : Hp} (e : Same H H') : ∀ {vs : List V} {ds : List PyData}, DqAll H vs ds → DqAll H' vs ds
  | _, _, .nil => .nil
  | _, _, .cons h t => .cons (dp_up e h) (dpAll_up e t)
end
mutual
theorem dq_dp {H : Hp} : ∀ {v : V} {d : PyData}, Dq H v d → L2.Dp K H v d
  | _, _, .non => .non
  | _, _, .bl b => .bl b
  | _, _, .int i => .int i
  | _, _, .str x => .str x
  | _, _, .lst h a => .lst (.inl (.inl h)) (dqAll_dp a)
  | _, _, .tup h a => .tup (.inl (.inl h)) (dqAll_dp a)
theorem dqAll_dp {H : Hp} : ∀ {vs : List V} {ds : List PyData}, DqAll H vs ds → L2.DpAll K H vs ds
  | _, _, .nil => .nil
  | _, _, .cons h t => .cons (dq_dp h) (dqAll_dp t)
end
theorem dpAll_len {H : Hp} : ∀ {vs : List V} {ds : List PyData}, DqAll H vs ds → vs.length = ds.length
  | _, _, .nil => rfl
  | _, _, .cons _ t => by simp [dpAll_len t]
theorem dpAll_get {H : Hp} : ∀ {vs : List V} {ds : List PyData} {i : Nat} {d : PyData}, DqAll H vs ds → ds[i]? = some d → ∃ v, vs[i]? = some v ∧ Dq H v d
  | _, _, _, _, .nil, h => by simp at h
  | _, _, 0, _, .cons q _, h => by simp at h; subst h; exact ⟨_, rfl, q⟩
  | _, _, i + 1, _, .cons _ t, h => by simpa using dpAll_get (i := i) t (by simpa using h)
theorem dpAll_get' {H : Hp} : ∀ {vs : List V} {ds : List PyData} {i : Nat} {v : V}, DqAll H vs ds → vs[i]? = some v → ∃ d, ds[i]? = some d ∧ Dq H v d
  | _, _, _, _, .nil, h => by simp at h
  | _, _, 0, _, .cons q _, h => by simp at h; subst h; exact ⟨_, rfl, q⟩
  | _, _, i + 1, _, .cons _ t, h => by simpa using dpAll_get' (i := i) t (by simpa using h)
theorem dpAll_app {H : Hp} : ∀ {vs ws : List V} {ds es : List PyData}, DqAll H vs ds → DqAll H ws es → DqAll H (vs ++ ws) (ds ++ es)
  | _, _, _, _, .nil, s => s
  | _, _, _, _, .cons q t, s => .cons q (dpAll_app t s)
theorem dpAll_take {H : Hp} : ∀ {vs : List V} {ds : List PyData} (n : Nat), DqAll H vs ds → DqAll H (vs.take n) (ds.take n)
  | _, _, 0, _ => .nil
  | _, _, _ + 1, .nil => .nil
  | _, _, n + 1, .cons q t => .cons q (dpAll_take n t)
theorem dpAll_drop {H : Hp} : ∀ {vs : List V} {ds : List PyData} (n : Nat), DqAll H vs ds → DqAll H (vs.drop n) (ds.drop n)
  | _, _, 0, s => s
  | _, _, _ + 1, .nil => .nil
  | _, _, n + 1, .cons _ t => dpAll_drop n t
theorem dpAll_set {H : Hp} {v : V} {d : PyData} (r : Dq H v d) : ∀ {vs : List V} {ds : List PyData} (n : Nat), DqAll H vs ds → DqAll H (vs.set n v) (ds.set n d)
  | _, _, _, .nil => .nil
  | _, _, 0, .cons _ t => .cons r t
  | _, _, n + 1, .cons q t => .cons q (dpAll_set r n t)
theorem dpAll_rep {H : Hp} : ∀ {vs : List V} {ds : List PyData} (n : Nat), DqAll H vs ds → DqAll H (List.replicate n vs).flatten (List.replicate n ds).flatten
  | _, _, 0, _ => .nil
  | _, _, n + 1, s => by
    rw [List.replicate_succ, List.replicate_succ, List.flatten_cons, List.flatten_cons]
    exact dpAll_app s (dpAll_rep n s)
theorem dpAll_ints {H : Hp} : ∀ {vs : List V} {ns : List Int}, DqAll H vs (ns.map PyData.int) → vs = ns.map V.int
  | [], [], .nil => rfl
  | _ :: _, n :: ns, .cons q t => by
    cases q
    rw [dpAll_ints t]; rfl
theorem dpAll_bools {H : Hp} : ∀ {vs : List V} {ns : List Bool}, DqAll H vs (ns.map PyData.bool) → vs = ns.map V.bl
  | [], [], .nil => rfl
  | _ :: _, n :: ns, .cons q t => by
    cases q
    rw [dpAll_bools t]; rfl
theorem dpAll_of_ints {H : Hp} : ∀ (ns : List Int), DqAll H (ns.map V.int) (ns.map PyData.int)
  | [] => .nil
  | n :: ns => .cons (.int n) (dpAll_of_ints ns)
end
/-- data that stays -/
def dat (d : PyData) : Rp := ⟨fun H v => Dq H v d, fun e h => dp_up e h⟩
/-- a list, wherever it stands, of data that stays -/
def bL (ds : List PyData) : Bw := ⟨fun G L v => ∃ a vs, v = .ref a ∧ (G a = some (.lst vs) ∨ (a, HO.lst vs) ∈ L) ∧ DqAll G vs ds, fun e l h => by
  obtain ⟨a, vs, r, q, d⟩ := h
  exact ⟨a, vs, r, q.elim (fun z => .inl (e _ _ z)) (fun z => .inr (l _ z)), dpAll_up e d⟩⟩
/-- an owned list of data that stays -/
def oL (ds : List PyData) : Op := ⟨fun G a cs => ∃ vs, cs = [(a, HO.lst vs)] ∧ DqAll G vs ds, fun e h => by
  obtain ⟨vs, r, d⟩ := h
  exact ⟨vs, r, dpAll_up e d⟩⟩
abbrev dI (i : Int) : Rp := dat (.int i)
abbrev dB (b : Bool) : Rp := dat (.bool b)

/-! ### expressions -/
/-- the value has B, now and as long as the slots stand -/
structure Ev (te : TE) (ρ : List Sl) (B : Bw) : Prop where
  run : ∀ {G : Hp} {σ : L2.St} {L0 : List Cell} {H : Hp} (Q : VK), Stt G ρ σ L0 H →
    (∀ G' H' v, Same G G' → Stt G' ρ σ L0 H' → (∀ G'' L'' H'', Same G' G'' → Slots G'' L0 σ ρ L'' → Lay G'' (L'' ++ L0) H'' → B.p G'' (L'' ++ L0) v) → Q v H') → te σ H Q
/-- a new list -/
structure EvN (te : TE) (ρ : List Sl) (ds : List PyData) : Prop where
  run : ∀ {G : Hp} {σ : L2.St} {L0 : List Cell} {H : Hp} (Q : VK), Stt G ρ σ L0 H →
    (∀ G' H' p vs, Same G G' → Stt G' ρ σ L0 H' → H' p = none → DqAll G' vs ds → Q (.ref p) (upd H' p (.lst vs))) → te σ H Q
structure EvT (tt : TT) (ρ : List Sl) (b : Bool) : Prop where
  run : ∀ {G : Hp} {σ : L2.St} {L0 : List Cell} {H : Hp} (Q : Bool → Hp → Prop), Stt G ρ σ L0 H →
    (∀ G' H', Same G G' → Stt G' ρ σ L0 H' → Q b H') → tt σ H Q
inductive AllB (G : Hp) (L : List Cell) : List V → List Bw → Prop
  | nil : AllB G L [] []
  | cons {v vs} {B : Bw} {Bs} : B.p G L v → AllB G L vs Bs → AllB G L (v :: vs) (B :: Bs)
structure EvA (ta : TA) (ρ : List Sl) (Bs : List Bw) : Prop where
  run : ∀ {G : Hp} {σ : L2.St} {L0 : List Cell} {H : Hp} (Q : List V → Hp → Prop), Stt G ρ σ L0 H →
    (∀ G' H' vs, Same G G' → Stt G' ρ σ L0 H' → (∀ G'' L'' H'', Same G' G'' → Slots G'' L0 σ ρ L'' → Lay G'' (L'' ++ L0) H'' → AllB G'' (L'' ++ L0) vs Bs) → Q vs H') → ta σ H Q
section
variable {K : PySem.W.Frag} {ρ : List Sl} {te ta tb : TE} {R : Rp} {B Ba Bb : Bw} {i j : Int}
/-- with pure results the wish is simple -/
theorem Ev.pure (h : ∀ {G : Hp} {σ : L2.St} {L0 : List Cell} {H : Hp} (Q : VK), Stt G ρ σ L0 H → (∀ G' H' v, Same G G' → Stt G' ρ σ L0 H' → R.p G' v → Q v H') → te σ H Q) : Ev te ρ (pu R) :=
  ⟨fun Q s q => h Q s fun G' H' v e s' r => q G' H' v e s' fun G'' L'' H'' e' _ _ => R.up e' r⟩
theorem Ev.at (h : Ev te ρ B) {G : Hp} {σ : L2.St} {L0 : List Cell} {H : Hp} {Q : VK} (s : Stt G ρ σ L0 H) (q : ∀ G' H' v L, Same G G' → Stt G' ρ σ L0 H' → Slots G' L0 σ ρ L → Lay G' (L ++ L0) H' → B.p G' (L ++ L0) v → Q v H') : te σ H Q :=
  h.run Q s fun G' H' v e s' r => by
    obtain ⟨L, a, b⟩ := id s'
    exact q G' H' v L e s' a b (r G' L H' (Same.refl _) a b)
theorem Ev.atp (h : Ev te ρ (pu R)) {G : Hp} {σ : L2.St} {L0 : List Cell} {H : Hp} {Q : VK} (s : Stt G ρ σ L0 H) (q : ∀ G' H' v, Same G G' → Stt G' ρ σ L0 H' → R.p G' v → Q v H') : te σ H Q :=
  h.at s fun G' H' v _ e s' _ _ r => q G' H' v e s' r
theorem Ev.imp {B' : Bw} (h : Ev te ρ B) (k : ∀ G L v, B.p G L v → B'.p G L v) : Ev te ρ B' := ⟨fun Q s q => h.run Q s fun G' H' v e s' r => q G' H' v e s' fun G'' L'' H'' e' a b => k _ _ _ (r G'' L'' H'' e' a b)⟩
theorem Ev.is {B' : Bw} (h : Ev te ρ B) (k : B = B') : Ev te ρ B' := by rw [← k]; exact h
theorem ev_var {i : Nat} (h : ρ[i]? = some (.p R)) : Ev (tVar i) ρ (pu R) := by
  refine Ev.pure fun Q s q => ?_
  obtain ⟨v, e, r⟩ := s.get_p h
  exact ⟨v, e, q _ _ v (Same.refl _) s r⟩
theorem ev_b {i : Nat} (h : ρ[i]? = some (.b B)) : Ev (tVar i) ρ B := by
  refine ⟨fun Q s q => ?_⟩
  obtain ⟨v, e, r⟩ := s.get_b h
  exact ⟨v, e, q _ _ v (Same.refl _) s fun G'' L'' H'' e' a b => B.up e' (fun c hc => List.mem_append_right _ hc) r⟩
/-- an owned list, read -/
theorem ev_o {ds : List PyData} {i : Nat} (h : ρ[i]? = some (.o (oL ds))) : Ev (tVar i) ρ (bL ds) := by
  refine ⟨fun Q s q => ?_⟩
  obtain ⟨a, cs, e, _⟩ := s.get_o h
  refine ⟨_, e, q _ _ _ (Same.refl _) s fun G'' L'' H'' e' sl la => ?_⟩
  obtain ⟨a', cs', M, e1, ⟨vs, e2, d⟩, pm, _⟩ := sl.get_o h
  rw [e] at e1
  injection e1 with e1; injection e1 with e1; injection e1 with e1
  subst e1 e2
  exact ⟨a, vs, rfl, .inr (List.mem_append_left _ (pm.mem_iff.mpr (List.mem_append_left _ (List.mem_cons_self ..)))), d⟩
theorem bl_of_dat {ds : List PyData} : ∀ G L v, (pu (dat (.list ds))).p G L v → (bL ds).p G L v := fun G L v h => by
  have h : Dq G v (.list ds) := h
  cases h with
  | lst a b => exact ⟨_, _, rfl, .inl a, b⟩
theorem Ev.bl {ds : List PyData} (h : Ev te ρ (pu (dat (.list ds)))) : Ev te ρ (bL ds) := h.imp bl_of_dat
theorem ev_int : Ev (tC (.int i)) ρ (pu (dI i)) := Ev.pure fun Q s q => q _ _ _ (Same.refl _) s (Dq.int i)
theorem ev_bl {b : Bool} : Ev (tC (.bl b)) ρ (pu (dB b)) := Ev.pure fun Q s q => q _ _ _ (Same.refl _) s (Dq.bl b)
theorem ev_non : Ev (tC .non) ρ (pu (dat .none)) := Ev.pure fun Q s q => q _ _ _ (Same.refl _) s Dq.non
theorem ev_str {x : Str} : Ev (tC (.str x)) ρ (pu (dat (.str x))) := Ev.pure fun Q s q => q _ _ _ (Same.refl _) s (Dq.str x)
theorem EvN.ev {ds : List PyData} (h : EvN te ρ ds) : Ev te ρ (pu (dat (.list ds))) := Ev.pure fun Q s q => h.run Q s fun G' H' p vs e s' hp d => by
  have g := s'.grow (o := .lst vs) hp
  exact q _ _ _ (e.trans g.1) g.2 (Dq.lst upd_same (dpAll_up g.1 d))
theorem EvN.is {ds ds' : List PyData} (h : EvN te ρ ds) (e : ds = ds') : EvN te ρ ds' := by rw [← e]; exact h
/-- an operation on two values, that makes nothing -/
def Op2 (r : R2) (Ba Bb : Bw) (R : Rp) : Prop := ∀ (G H : Hp) (L : List Cell) (x y : V) (Q : VK), Lay G L H → Ba.p G L x → Bb.p G L y → (∀ v, R.p G v → Q v H) → r x y H Q
theorem ev_op {r : R2} (ha : Ev ta ρ Ba) (hb : Ev tb ρ Bb) (h : Op2 r Ba Bb R) : Ev (tOp r ta tb) ρ (pu R) := Ev.pure fun Q s q =>
  ha.run _ s fun G1 H1 x e1 s1 rx => hb.run _ s1 fun G2 H2 y e2 s2 ry => by
    obtain ⟨L, a, b⟩ := id s2
    exact h G2 H2 _ x y Q b (rx G2 L H2 e2 a b) (ry G2 L H2 (Same.refl _) a b) fun v rv => q G2 H2 v (e1.trans e2) s2 rv
/-- .. that makes a new list -/
def Op2N (r : R2) (Ba Bb : Bw) (ds : List PyData) : Prop := ∀ (G H : Hp) (L : List Cell) (x y : V) (Q : VK), Lay G L H → Ba.p G L x → Bb.p G L y → (∀ p vs, H p = none → DqAll G vs ds → Q (.ref p) (upd H p (.lst vs))) → r x y H Q
theorem ev_opN {r : R2} {ds : List PyData} (ha : Ev ta ρ Ba) (hb : Ev tb ρ Bb) (h : Op2N r Ba Bb ds) : EvN (tOp r ta tb) ρ ds := ⟨fun Q s q =>
  ha.run _ s fun G1 H1 x e1 s1 rx => hb.run _ s1 fun G2 H2 y e2 s2 ry => by
    obtain ⟨L, a, b⟩ := id s2
    exact h G2 H2 _ x y Q b (rx G2 L H2 e2 a b) (ry G2 L H2 (Same.refl _) a b) fun p vs hp d => q G2 H2 p vs (e1.trans e2) s2 hp d⟩
theorem o_int0 {g : Int → Int → Int} : Op2 (rI0 fun i j => .int (g i j)) (pu (dI i)) (pu (dI j)) (dI (g i j)) := fun G H L x y Q _ hx hy q => by
  cases hx; cases hy
  exact ⟨i, j, rfl, rfl, q _ (Dq.int _)⟩
theorem o_bool0 {g : Int → Int → Bool} : Op2 (rI0 fun i j => .bl (g i j)) (pu (dI i)) (pu (dI j)) (dB (g i j)) := fun G H L x y Q _ hx hy q => by
  cases hx; cases hy
  exact ⟨i, j, rfl, rfl, q _ (Dq.bl _)⟩
theorem o_intC {C : Int → Int → Prop} {g : Int → Int → Int} (hc : C i j) : Op2 (rI C fun i j => .int (g i j)) (pu (dI i)) (pu (dI j)) (dI (g i j)) := fun G H L x y Q _ hx hy q => by
  cases hx; cases hy
  exact ⟨i, j, rfl, rfl, hc, q _ (Dq.int _)⟩
theorem o_eqI : Op2 rEq (pu (dI i)) (pu (dI j)) (dB (decide (i = j))) := fun G H L x y Q _ hx hy q => by
  cases hx; cases hy
  refine ⟨rfl, q _ ?_⟩
  rw [show decide (V.int i = V.int j) = decide (i = j) by simp]
  exact Dq.bl _
theorem o_neI : Op2 rNe (pu (dI i)) (pu (dI j)) (dB (!decide (i = j))) := fun G H L x y Q _ hx hy q => by
  cases hx; cases hy
  refine ⟨rfl, q _ ?_⟩
  rw [show decide (V.int i = V.int j) = decide (i = j) by simp]
  exact Dq.bl _
theorem o_eqD {d e : PyData} (hd : SeqAt.shaped d = true) (he : SeqAt.shaped e = true) : Op2 (rEqD K) (pu (dat d)) (pu (dat e)) (dB (PyData.eqv d e)) := fun G H L x y Q l hx hy q =>
  ⟨d, e, dq_dp (dp_up l.same hx), dq_dp (dp_up l.same hy), hd, he, q _ (Dq.bl _)⟩
theorem o_neD {d e : PyData} (hd : SeqAt.shaped d = true) (he : SeqAt.shaped e = true) : Op2 (rNeD K) (pu (dat d)) (pu (dat e)) (dB (!PyData.eqv d e)) := fun G H L x y Q l hx hy q =>
  ⟨d, e, dq_dp (dp_up l.same hx), dq_dp (dp_up l.same hy), hd, he, q _ (Dq.bl _)⟩
theorem bl_sq {G H : Hp} {L : List Cell} {ds : List PyData} {v : V} (l : Lay G L H) (h : (bL ds).p G L v) : ∃ a vs, v = .ref a ∧ H a = some (.lst vs) ∧ DqAll G vs ds := by
  obtain ⟨a, vs, r, q, d⟩ := h
  exact ⟨a, vs, r, q.elim (fun z => l.same _ _ z) (fun z => (l.on _ z).1), d⟩
theorem atI_all {G : Hp} {vs : List V} {ds : List PyData} {d : PyData} (h : DqAll G vs ds) (e : atI ds i = some d) : ∃ v, atI vs i = some v ∧ Dq G v d := by
  unfold atI at e ⊢
  rw [dpAll_len h]
  cases q : ixN ds.length i with
  | none => rw [q] at e; cases e
  | some k =>
    rw [q] at e
    exact dpAll_get h e
theorem o_ixL {ds : List PyData} {d : PyData} (e : atI ds i = some d) : Op2 (rIxL K) (bL ds) (pu (dI i)) (dat d) := fun G H L x y Q l hx hy q => by
  obtain ⟨a, vs, r, h, dd⟩ := bl_sq l hx
  cases hy
  obtain ⟨v, hv, dv⟩ := atI_all dd e
  exact ⟨a, vs, i, v, r, rfl, .inl (.inl h), hv, q v dv⟩
theorem o_ixT {ds : List PyData} {d : PyData} (e : atI ds i = some d) : Op2 (rIxT K) (pu (dat (.tuple ds))) (pu (dI i)) (dat d) := fun G H L x y Q l hx hy q => by
  have hx : Dq G x (.tuple ds) := hx
  cases hx with
  | tup h dd =>
    cases hy
    obtain ⟨v, hv, dv⟩ := atI_all dd e
    exact ⟨_, _, i, v, rfl, rfl, .inl (.inl (l.same _ _ h)), hv, q v dv⟩
/-- a one-place operation -/
theorem ev_neg (ha : Ev ta ρ (pu (dI i))) : Ev (tUn (rU fun i => .int (-i)) ta) ρ (pu (dI (-i))) := Ev.pure fun Q s q =>
  ha.atp s fun G' H' v e s' r => by
    cases r
    exact ⟨i, rfl, q _ _ _ e s' (Dq.int _)⟩
/-! tests -/
theorem et_test {b : Bool} (h : Ev te ρ (pu (dB b))) : EvT (tTest te) ρ b := ⟨fun Q s q => h.atp s fun G' H' v e s' r => by
  cases r
  exact ⟨b, rfl, q _ _ e s'⟩⟩
theorem et_B {b : Bool} (h : Ev te ρ (pu (dB b))) : EvT (tB te) ρ b := ⟨fun Q s q => h.atp s fun G' H' v e s' r => by
  cases r
  exact ⟨b, rfl, q _ _ e s'⟩⟩
theorem et_and {t u : TT} {a b : Bool} (h1 : EvT t ρ a) (h2 : a = true → EvT u ρ b) : EvT (tAnd t u) ρ (a && b) := ⟨fun Q s q => h1.run _ s fun G1 H1 e1 s1 => by
  cases a with
  | true =>
    show u _ _ Q
    exact (h2 rfl).run Q s1 fun G2 H2 e2 s2 => q G2 H2 (e1.trans e2) s2
  | false => exact q G1 H1 e1 s1⟩
theorem et_or {t u : TT} {a b : Bool} (h1 : EvT t ρ a) (h2 : a = false → EvT u ρ b) : EvT (tOr t u) ρ (a || b) := ⟨fun Q s q => h1.run _ s fun G1 H1 e1 s1 => by
  cases a with
  | false =>
    show u _ _ Q
    exact (h2 rfl).run Q s1 fun G2 H2 e2 s2 => q G2 H2 (e1.trans e2) s2
  | true => exact q G1 H1 e1 s1⟩
theorem et_not {t : TT} {a : Bool} (h1 : EvT t ρ a) : EvT (tNot t) ρ (!a) := ⟨fun Q s q => h1.run _ s fun G1 H1 e1 s1 => q G1 H1 e1 s1⟩
theorem EvT.is {t : TT} {a b : Bool} (h : EvT t ρ a) (e : a = b) : EvT t ρ b := by rw [← e]; exact h
/-- a < b < c -/
theorem ev_chain {r r' : R2} {tc : TE} {Bc : Bw} {a b : Bool} (ha : Ev ta ρ Ba) (hb : Ev tb ρ Bb) (hc : a = true → Ev tc ρ Bc) (h : Op2 r Ba Bb (dB a)) (h' : a = true → Op2 r' Bb Bc (dB b)) : Ev (tChain r r' ta tb tc) ρ (pu (dB (a && b))) := Ev.pure fun Q s q =>
  ha.run _ s fun G1 H1 x e1 s1 rx => hb.run _ s1 fun G2 H2 y e2 s2 ry => by
    obtain ⟨L, sa, sb⟩ := id s2
    refine h G2 H2 _ x y _ sb (rx G2 L H2 e2 sa sb) (ry G2 L H2 (Same.refl _) sa sb) fun z rz => ?_
    cases rz
    refine ⟨a, rfl, ?_⟩
    cases a with
    | false => exact q G2 H2 _ (e1.trans e2) s2 (Dq.bl _)
    | true =>
      show tc _ _ _
      refine (hc rfl).run _ s2 fun G3 H3 w e3 s3 rw => ?_
      obtain ⟨L3, sa3, sb3⟩ := id s3
      exact h' rfl G3 H3 _ y w Q sb3 (ry G3 L3 H3 e3 sa3 sb3) (rw G3 L3 H3 (Same.refl _) sa3 sb3) fun v rv => q G3 H3 v ((e1.trans e2).trans e3) s3 (by cases rv; exact Dq.bl _)
theorem ev_andV {a b : Bool} (h1 : Ev ta ρ (pu (dB a))) (h2 : a = true → Ev tb ρ (pu (dB b))) : Ev (tAndV ta tb) ρ (pu (dB (a && b))) := Ev.pure fun Q s q => h1.atp s fun G1 H1 v e1 s1 r => by
  cases r
  refine ⟨a, rfl, ?_⟩
  cases a with
  | true => exact (h2 rfl).atp s1 fun G2 H2 v e2 s2 r2 => q G2 H2 v (e1.trans e2) s2 r2
  | false => exact q G1 H1 _ e1 s1 (Dq.bl _)
theorem ev_orV {a b : Bool} (h1 : Ev ta ρ (pu (dB a))) (h2 : a = false → Ev tb ρ (pu (dB b))) : Ev (tOrV ta tb) ρ (pu (dB (a || b))) := Ev.pure fun Q s q => h1.atp s fun G1 H1 v e1 s1 r => by
  cases r
  refine ⟨a, rfl, ?_⟩
  cases a with
  | false => exact (h2 rfl).atp s1 fun G2 H2 v e2 s2 r2 => q G2 H2 v (e1.trans e2) s2 r2
  | true => exact q G1 H1 _ e1 s1 (Dq.bl _)
theorem ev_notV {a : Bool} (h1 : Ev ta ρ (pu (dB a))) : Ev (tNotV ta) ρ (pu (dB (!a))) := Ev.pure fun Q s q => h1.atp s fun G1 H1 v e1 s1 r => by
  cases r
  exact ⟨a, rfl, q G1 H1 _ e1 s1 (Dq.bl _)⟩
theorem ev_if {t : TT} {b : Bool} (h : EvT t ρ b) (h1 : b = true → Ev ta ρ B) (h2 : b = false → Ev tb ρ B) : Ev (tIf t ta tb) ρ B := ⟨fun Q s q => h.run _ s fun G1 H1 e1 s1 => by
  cases b with
  | true => exact (h1 rfl).run Q s1 fun G2 H2 v e2 s2 r2 => q G2 H2 v (e1.trans e2) s2 r2
  | false => exact (h2 rfl).run Q s1 fun G2 H2 v e2 s2 r2 => q G2 H2 v (e1.trans e2) s2 r2⟩
/-! arguments, displays -/
theorem ea_nil : EvA tNil ρ [] := ⟨fun Q s q => q _ _ _ (Same.refl _) s fun _ _ _ _ _ _ => .nil⟩
theorem ea_cons {tr : TA} {Bs : List Bw} (h : Ev te ρ B) (hr : EvA tr ρ Bs) : EvA (tCons te tr) ρ (B :: Bs) := ⟨fun Q s q =>
  h.run _ s fun G1 H1 v e1 s1 r1 => hr.run _ s1 fun G2 H2 vs e2 s2 r2 => q G2 H2 (v :: vs) (e1.trans e2) s2 fun G3 L3 H3 e3 a b => .cons (r1 G3 L3 H3 (e2.trans e3) a b) (r2 G3 L3 H3 e3 a b)⟩
theorem EvA.at {tr : TA} {Bs : List Bw} (h : EvA tr ρ Bs) {G : Hp} {σ : L2.St} {L0 : List Cell} {H : Hp} {Q : List V → Hp → Prop} (s : Stt G ρ σ L0 H)
    (q : ∀ G' H' vs L, Same G G' → Slots G' L0 σ ρ L → Lay G' (L ++ L0) H' → AllB G' (L ++ L0) vs Bs → Q vs H') : tr σ H Q :=
  h.run _ s fun G' H' vs e s' r => by
    obtain ⟨L, a, b⟩ := id s'
    exact q G' H' vs L e a b (r G' L H' (Same.refl _) a b)
theorem allB_dat {G : Hp} {L : List Cell} : ∀ {vs : List V} {ds : List PyData}, AllB G L vs (ds.map fun d => pu (dat d)) → DqAll G vs ds
  | _, [], .nil => .nil
  | _, d :: ds, .cons h t => .cons h (allB_dat t)
theorem ev_tup {ta : TA} {ds : List PyData} (h : EvA ta ρ (ds.map fun d => pu (dat d))) (hl : ds.length ≤ 1000) : Ev (tTup ta) ρ (pu (dat (.tuple ds))) := Ev.pure fun Q s q =>
  h.at s fun G1 H1 vs L e1 a b r => by
    have d := allB_dat r
    refine ⟨by rw [dpAll_len d]; exact Nat.le_of_lt (small1000 hl), fun p hp => ?_⟩
    have g := Stt.grow ⟨L, a, b⟩ (o := .tup vs) hp
    exact q _ _ _ (e1.trans g.1) g.2 (Dq.tup upd_same (dpAll_up g.1 d))
theorem en_lst {ta : TA} {ds : List PyData} (h : EvA ta ρ (ds.map fun d => pu (dat d))) (hl : ds.length ≤ 1000) : EvN (tLst ta) ρ ds := ⟨fun Q s q =>
  h.at s fun G1 H1 vs L e1 a b r => by
    have d := allB_dat r
    exact ⟨by rw [dpAll_len d]; exact Nat.le_of_lt (small1000 hl), fun p hp => q G1 H1 p vs e1 ⟨L, a, b⟩ hp d⟩⟩
/-- a builtin's call -/
def Cl (r : List V → Hp → VK → Prop) (Bs : List Bw) (R : Rp) : Prop := ∀ (G H : Hp) (L : List Cell) (vs : List V) (Q : VK), Lay G L H → AllB G L vs Bs → (∀ v, R.p G v → Q v H) → r vs H Q
theorem ev_cb {r : List V → Hp → VK → Prop} {ta : TA} {Bs : List Bw} (h : EvA ta ρ Bs) (hr : Cl r Bs R) : Ev (tCB r ta) ρ (pu R) := Ev.pure fun Q s q =>
  h.at s fun G1 H1 vs L e1 a b rv => hr G1 H1 _ vs Q b rv fun v r => q G1 H1 v e1 ⟨L, a, b⟩ r
def ClN (r : List V → Hp → VK → Prop) (Bs : List Bw) (ds : List PyData) : Prop := ∀ (G H : Hp) (L : List Cell) (vs : List V) (Q : VK), Lay G L H → AllB G L vs Bs → (∀ p ws, H p = none → DqAll G ws ds → Q (.ref p) (upd H p (.lst ws))) → r vs H Q
theorem en_cb {r : List V → Hp → VK → Prop} {ta : TA} {Bs : List Bw} {ds : List PyData} (h : EvA ta ρ Bs) (hr : ClN r Bs ds) : EvN (tCB r ta) ρ ds := ⟨fun Q s q =>
  h.at s fun G1 H1 vs L e1 a b rv => hr G1 H1 _ vs Q b rv fun p ws hp d => q G1 H1 p ws e1 ⟨L, a, b⟩ hp d⟩
end
end Z

set_option Elab.async false
set_option linter.all false
set_option maxRecDepth 100000
set_option maxHeartbeats 2000000
/-! Zc: statements, targets, loops, comprehensions. -/
namespace Z
open PySem PySem.Spec PyProof.Rows L2
/-! ### what a statement ends in -/
inductive Out where
  | nx (ρ : List Sl) | rt (R : Rp) | ro (O : Op) | bk (ρ : List Sl) | ct (ρ : List Sl) | go (ρ : List Sl) | xc (ρ : List Sl) (C : Addr) (n : Int)
def Nx (N : L2.St → Hp → Prop) (G : Hp) (L0 : List Cell) (ρ : List Sl) : Prop := ∀ G' σ' H', Same G G' → Stt G' ρ σ' L0 H' → N σ' H'
/-- an error's own dict -/
def atF (n : Int) : HO := .xd [(("at" : Str), V.int n)]
def Post (W : WX) (D : Ends) (G : Hp) (L0 : List Cell) : Out → Prop
  | .nx ρ => Nx D.nx G L0 ρ
  | .bk ρ => Nx D.bk G L0 ρ
  | .ct ρ => Nx D.ct G L0 ρ
  | .go ρ => Nx D.nx G L0 ρ ∧ Nx D.ct G L0 ρ
  | .rt R => ∀ G' ρ' σ' H' v, Same G G' → Stt G' ρ' σ' L0 H' → R.p G' v → D.rt v H'
  | .ro O => ∀ G' H' a cs, Same G G' → Lay G' (cs ++ L0) H' → O.p G' a cs → D.rt (.ref a) H'
  | .xc ρ C n => ∀ G' σ' H' d, Same G G' → Stt G' ρ σ' L0 H' → H' d = none → W (.ref C) (some d) σ' (upd H' d (atF n))
theorem Post.mono {W : WX} {D : Ends} {G G1 : Hp} {L0 : List Cell} {o : Out} (e : Same G G1) (h : Post W D G L0 o) : Post W D G1 L0 o := by
  cases o with
  | nx ρ => exact fun G' σ' H' e' s => h G' σ' H' (e.trans e') s
  | bk ρ => exact fun G' σ' H' e' s => h G' σ' H' (e.trans e') s
  | ct ρ => exact fun G' σ' H' e' s => h G' σ' H' (e.trans e') s
  | go ρ => exact ⟨fun G' σ' H' e' s => h.1 G' σ' H' (e.trans e') s, fun G' σ' H' e' s => h.2 G' σ' H' (e.trans e') s⟩
  | rt R => exact fun G' ρ' σ' H' v e' s r => h G' ρ' σ' H' v (e.trans e') s r
  | ro O => exact fun G' H' a cs e' l r => h G' H' a cs (e.trans e') l r
  | xc ρ C n => exact fun G' σ' H' d e' s r => h G' σ' H' d (e.trans e') s r
structure Ex (W : WX) (ts : TS) (ρ : List Sl) (o : Out) : Prop where
  run : ∀ {G : Hp} {σ : L2.St} {L0 : List Cell} {H : Hp} (D : Ends), Stt G ρ σ L0 H → Post W D G L0 o → ts D σ H
/-- storing at a target: what slots it touches, T -/
structure EvG (g : TG) (T : List Nat) (ρ : List Sl) (R : Rp) (ρ' : List Sl) : Prop where
  run : ∀ {G : Hp} {σ : L2.St} {L0 : List Cell} {H : Hp} (v : V) (Q : L2.St → Hp → Prop), Stt G ρ σ L0 H → R.p G v →
    (∀ G' σ' H', Same G G' → Stt G' ρ' σ' L0 H' → (∀ vs, (∀ i ∈ T, i ∈ vs) → wipe σ' vs = wipe σ vs) → Q σ' H') → g v σ H Q
structure EvGs (g : TGs) (T : List Nat) (ρ : List Sl) (ds : List PyData) (ρ' : List Sl) : Prop where
  run : ∀ {G : Hp} {σ : L2.St} {L0 : List Cell} {H : Hp} (vs : List V) (Q : L2.St → Hp → Prop), Stt G ρ σ L0 H → DqAll G vs ds →
    (∀ G' σ' H', Same G G' → Stt G' ρ' σ' L0 H' → (∀ vs, (∀ i ∈ T, i ∈ vs) → wipe σ' vs = wipe σ vs) → Q σ' H') → g vs σ H Q
theorem wipe_get (σ : L2.St) (j : Nat) : ∀ vs : List Nat, (wipe σ vs)[j]? = if j ∈ vs then (σ[j]?).map (fun _ => none) else σ[j]?
  | [] => by simp [wipe]
  | v :: vs => by
    show ((wipe σ vs).set v none)[j]? = _
    rw [List.getElem?_set, wipe_length, wipe_get σ j vs]
    by_cases hv : v = j
    · subst hv
      rw [if_pos rfl, if_pos (List.mem_cons_self ..)]
      by_cases hl : v < σ.length
      · rw [if_pos hl, List.getElem?_eq_getElem hl]; rfl
      · rw [if_neg hl, List.getElem?_eq_none (by omega)]; rfl
    · rw [if_neg hv]
      have e : (j ∈ v :: vs) = (j ∈ vs) := by
        rw [List.mem_cons]
        exact propext ⟨fun z => z.elim (fun q => absurd q.symm hv) id, Or.inr⟩
      by_cases hj : j ∈ vs
      · rw [if_pos hj, if_pos (List.mem_cons_of_mem _ hj)]
      · rw [if_neg hj, if_neg (by rw [e]; exact hj)]
theorem wipe_set {σ : L2.St} {i : Nat} {x : Option V} {vs : List Nat} (h : i ∈ vs) : wipe (σ.set i x) vs = wipe σ vs := by
  apply List.ext_getElem?
  intro j
  rw [wipe_get, wipe_get]
  by_cases hj : i = j
  · subst hj
    rw [if_pos h, if_pos h, List.getElem?_set]
    by_cases hl : i < σ.length
    · rw [if_pos rfl, if_pos hl, List.getElem?_eq_getElem hl]; rfl
    · rw [if_pos rfl, if_neg hl, List.getElem?_eq_none (by omega)]
  · rw [List.getElem?_set_ne hj]
section
variable {K : PySem.W.Frag} {W : WX} {ρ ρ' ρ1 : List Sl} {te ta tb : TE} {t u : TS} {R : Rp} {B : Bw} {o : Out} {i : Nat}
theorem Ex.next : Ex W tNext ρ (.nx ρ) := ⟨fun D s q => q _ _ _ (Same.refl _) s⟩
theorem Ex.break_ : Ex W tBreak ρ (.bk ρ) := ⟨fun D s q => q _ _ _ (Same.refl _) s⟩
theorem Ex.cont : Ex W tCont ρ (.ct ρ) := ⟨fun D s q => q _ _ _ (Same.refl _) s⟩
theorem Ex.go (h : Ex W t ρ (.nx ρ')) : Ex W t ρ (.go ρ') := ⟨fun D s q => h.run D s q.1⟩
theorem Ex.goc (h : Ex W t ρ (.ct ρ')) : Ex W t ρ (.go ρ') := ⟨fun D s q => h.run D s q.2⟩
theorem Ex.is {o' : Out} (h : Ex W t ρ o) (e : o = o') : Ex W t ρ o' := by rw [← e]; exact h
theorem Ex.of {ρ'} (e : ρ' = ρ) (h : Ex W t ρ' o) : Ex W t ρ o := by rw [← e]; exact h
theorem Nx.weak {N : L2.St → Hp → Prop} {G : Hp} {L0 : List Cell} (w : Wk ρ ρ') (h : Nx N G L0 ρ') : Nx N G L0 ρ := fun G' σ' H' e s => by
  obtain ⟨G2, e2, s2⟩ := s.weak w
  exact h G2 σ' H' (e.trans e2) s2
/-- told less ahead -/
theorem Ex.weak (w : Wk ρ ρ') (h : Ex W t ρ' o) : Ex W t ρ o := ⟨fun D s q => by
  obtain ⟨G2, e2, s2⟩ := s.weak w
  exact h.run D s2 (q.mono e2)⟩
theorem Ex.out (w : Wk ρ' ρ1) (h : Ex W t ρ (.nx ρ')) : Ex W t ρ (.nx ρ1) := ⟨fun D s q => h.run D s (Nx.weak w q)⟩
theorem Ex.goout (w : Wk ρ' ρ1) (h : Ex W t ρ (.go ρ')) : Ex W t ρ (.go ρ1) := ⟨fun D s q => h.run D s ⟨Nx.weak w q.1, Nx.weak w q.2⟩⟩
theorem Ex.seq (h : Ex W t ρ (.nx ρ1)) (k : Ex W u ρ1 o) : Ex W (tSeq t u) ρ o := ⟨fun D s q => h.run { D with nx := u D } s fun G' σ' H' e s' => k.run D s' (q.mono e)⟩
/-- an end that is not the next statement -/
def Out.ends : Out → Bool
  | .nx _ => false
  | .go _ => false
  | _ => true
theorem Ex.seqE (h : Ex W t ρ o) (k : o.ends = true) : Ex W (tSeq t u) ρ o := ⟨fun D s q => h.run { D with nx := u D } s (by
  cases o with
  | nx _ => cases k
  | go _ => cases k
  | bk _ => exact q
  | ct _ => exact q
  | rt _ => exact q
  | ro _ => exact q
  | xc _ _ _ => exact q)⟩
theorem Ex.ife {tc : TT} {b : Bool} (hc : EvT tc ρ b) (h1 : b = true → Ex W t ρ o) (h2 : b = false → Ex W u ρ o) : Ex W (tIfS tc t u) ρ o := ⟨fun D s q => hc.run _ s fun G1 H1 e1 s1 => by
  cases b with
  | true => exact (h1 rfl).run D s1 (q.mono e1)
  | false => exact (h2 rfl).run D s1 (q.mono e1)⟩
/-- an if whose two ways go their own ends -/
theorem Ex.ite {v : TS} {tc : TT} {b : Bool} (hc : EvT tc ρ b) (h1 : b = true → Ex W (tSeq t v) ρ o) (h2 : b = false → Ex W (tSeq u v) ρ o) : Ex W (tSeq (tIfS tc t u) v) ρ o := ⟨fun D s q => hc.run _ s fun G1 H1 e1 s1 => by
  cases b with
  | true => exact (h1 rfl).run D s1 (q.mono e1)
  | false => exact (h2 rfl).run D s1 (q.mono e1)⟩
theorem Ex.skip (h : Ex W u ρ o) : Ex W (tSeq tNext u) ρ o := Ex.seq Ex.next h
theorem Ex.set (h : Ev te ρ (pu R)) (i : Nat := i) : Ex W (tAsg te (gName i)) ρ (.nx (ρ.set i (.p R))) := ⟨fun D s q => h.atp s fun G' H' v e s' r => by
  obtain ⟨G2, e2, s2⟩ := s'.set_p r i
  exact q G2 _ H' (e.trans e2) s2⟩
theorem Ex.setN {ds : List PyData} (h : EvN te ρ ds) (hi : i < ρ.length) : Ex W (tAsg te (gName i)) ρ (.nx (ρ.set i (.o (oL ds)))) := ⟨fun D s q => h.run _ s fun G' H' p vs e s' hp d => by
  obtain ⟨G2, e2, s2⟩ := s'.set_o (O := oL ds) (a := p) (cs := [(p, .lst vs)]) (H' := upd H' p (.lst vs)) ⟨vs, rfl, d⟩ i hi (fun M l => l.cell hp)
  exact q G2 _ _ (e.trans e2) s2⟩
/-- an owned list is from now on data that stays -/
theorem Ex.freeze {ds : List PyData} (i : Nat) (hi : ρ[i]? = some (.o (oL ds))) (h : Ex W t (ρ.set i (.p (dat (.list ds)))) o) : Ex W t ρ o := ⟨fun {G σ L0 H} D s q => by
  obtain ⟨a, cs, e, ⟨vs, hcs, d⟩, hh, k1, k2⟩ := s.get_o hi
  subst hcs
  obtain ⟨G2, e2, s2⟩ := k2 (dat (.list ds)) fun G' e' hc => Dq.lst (hc (a, .lst vs) (List.mem_cons_self ..)) (dpAll_up e' d)
  exact h.run D s2 (q.mono e2)⟩
theorem Ex.ret (h : Ev te ρ (pu R)) : Ex W (tRet te) ρ (.rt R) := ⟨fun D s q => h.atp s fun G' H' v e s' r => q G' _ _ H' v e s' r⟩
theorem Ex.retN : Ex W tRetN ρ (.rt (dat .none)) := ⟨fun D s q => q _ _ _ _ _ (Same.refl _) s Dq.non⟩
theorem Ex.drop (h : Ev te ρ B) : Ex W (tDrop te) ρ (.nx ρ) := ⟨fun D s q => h.at s fun G' H' v L e s' _ _ _ => q G' _ H' e s'⟩
theorem Ex.asg {g : TG} {T : List Nat} (h : Ev te ρ (pu R)) (hg : EvG g T ρ R ρ') : Ex W (tAsg te g) ρ (.nx ρ') := ⟨fun D s q => h.atp s fun G' H' v e s' r => hg.run v _ s' r fun G2 σ2 H2 e2 s2 _ => q G2 σ2 H2 (e.trans e2) s2⟩
theorem eg_name : EvG (gName i) [i] ρ R (ρ.set i (.p R)) := ⟨fun v Q s r q => by
  obtain ⟨G2, e2, s2⟩ := s.set_p r i
  exact q G2 _ _ e2 s2 fun vs h => wipe_set (h i (List.mem_cons_self ..))⟩
theorem egs_nil : EvGs gNil [] ρ [] ρ := ⟨fun vs Q s r q => by
  cases r
  exact ⟨rfl, q _ _ _ (Same.refl _) s fun _ _ => rfl⟩⟩
theorem egs_cons {g : TG} {gs : TGs} {T U : List Nat} {d : PyData} {ds : List PyData} (h1 : EvG g T ρ (dat d) ρ1) (h2 : EvGs gs U ρ1 ds ρ') : EvGs (gCons g gs) (T ++ U) ρ (d :: ds) ρ' := ⟨fun vs Q s r q => by
  cases r with
  | cons r1 r2 =>
    exact ⟨_, _, rfl, h1.run _ _ s r1 fun G1 σ1 H1 e1 s1 w1 => h2.run _ _ s1 (dpAll_up e1 r2) fun G2 σ2 H2 e2 s2 w2 => q G2 σ2 H2 (e1.trans e2) s2 fun vs h =>
      (w2 vs fun i hi => h i (List.mem_append_right _ hi)).trans (w1 vs fun i hi => h i (List.mem_append_left _ hi))⟩⟩
theorem eg_tup {n : Nat} {gs : TGs} {T : List Nat} {ds : List PyData} (h : EvGs gs T ρ ds ρ') (hn : ds.length = n) : EvG (gTup K n gs) T ρ (dat (.tuple ds)) ρ' := ⟨fun v Q s r q => by
  have r : Dq _ v (.tuple ds) := r
  cases r with
  | tup a b => exact ⟨_, _, rfl, .inl (.inl (s.same _ _ a)), by rw [dpAll_len b]; exact hn, h.run _ Q s b q⟩⟩
/-! ### walks -/
/-- what a walk J yields where G stands: the data ds, one by one -/
structure Gives (J : It) (G0 : Hp) (L0 : List Cell) (ds : List PyData) : Prop where
  go : ∀ i G L H, Same G0 G → Lay G (L ++ L0) H → (h : i < ds.length) → J.go i H ∧ ∀ x H', J.yld i H x H' → ∃ G', Same G G' ∧ (∀ L, Lay G (L ++ L0) H → Lay G' (L ++ L0) H') ∧ Dq G' x ds[i]
  stop : ∀ i G L H, Same G0 G → Lay G (L ++ L0) H → ds.length ≤ i → J.stop i H
structure EvI (K : PySem.W.Frag) (wi : TI) (ρ : List Sl) (ds : List PyData) : Prop where
  run : ∀ {G : Hp} {σ : L2.St} {L0 : List Cell} {H : Hp} (Q : It → Hp → Prop), Stt G ρ σ L0 H →
    (∀ G' H' J, Same G G' → Stt G' ρ σ L0 H' → Gives J G' L0 ds → Q J H') → wi σ H Q
/-- a list that stays, or somebody else's -/
structure EvS (K : PySem.W.Frag) (te : TE) (ρ : List Sl) (ds : List PyData) : Prop where
  run : ∀ {G : Hp} {σ : L2.St} {L0 : List Cell} {H : Hp} (Q : VK), Stt G ρ σ L0 H →
    (∀ G' H' a vs, Same G G' → Stt G' ρ σ L0 H' → (∀ G'' L'' H'', Same G' G'' → Lay G'' (L'' ++ L0) H'' → SqL K H'' a vs) → DqAll G' vs ds → Q (.ref a) H') → te σ H Q
theorem Ev.s {ds : List PyData} (h : Ev te ρ (pu (dat (.list ds)))) : EvS K te ρ ds := ⟨fun Q s q => h.atp s fun G' H' v e s' r => by
  have r : Dq G' v (.list ds) := r
  cases r with
  | lst a b => exact q G' H' _ _ e s' (fun G'' L'' H'' e2 l => .inl (.inl (l.same _ _ (e2 _ _ a)))) b⟩
theorem es_b {ds : List PyData} (h : ρ[i]? = some (.b (bL ds))) : EvS K (tVar i) ρ ds := ⟨fun Q s q => by
  obtain ⟨v, e, r⟩ := s.get_b h
  obtain ⟨a, vs, rfl, hc, d⟩ := r
  exact ⟨_, e, q _ _ a vs (Same.refl _) s (fun G'' L'' H'' e2 l => .inl (.inl (hc.elim (fun z => l.same _ _ (e2 _ _ z)) fun z => (l.on _ (List.mem_append_right _ z)).1))) d⟩⟩
theorem ei_list {ds : List PyData} (h : EvS K te ρ ds) : EvI K (iList K te) ρ ds := ⟨fun Q s q => h.run _ s fun G' H' a vs e s' hc d => by
  obtain ⟨L, sl, la⟩ := id s'
  refine ⟨a, rfl, ⟨vs, hc _ _ _ (Same.refl _) la⟩, q G' H' _ e s' ⟨fun i G L H e2 l hi => ?_, fun i G L H e2 l hi => ?_⟩⟩
  · have hq := hc _ _ _ e2 l
    obtain ⟨v, hv, dv⟩ := dpAll_get d (List.getElem?_eq_getElem hi)
    refine ⟨⟨vs, v, hq, hv⟩, fun x H' y => ?_⟩
    obtain ⟨rfl, y⟩ := y
    have ex : x = v := Option.some.inj ((y vs hq).symm.trans hv)
    subst ex
    exact ⟨G, Same.refl _, fun L l => l, dp_up e2 dv⟩
  · exact ⟨vs, hc _ _ _ e2 l, by rw [dpAll_len d]; exact hi⟩⟩
/-- lo, lo + 1, .. -/
def irange (lo : Int) (n : Nat) : List PyData := (List.range n).map fun k => .int (lo + (k : Nat))
theorem irange_len (lo : Int) (n : Nat) : (irange lo n).length = n := by simp [irange]
theorem gives_range {G : Hp} {L0 : List Cell} {lo : Int} {n : Nat} : Gives (Itr lo n) G L0 (irange lo n) :=
  ⟨fun i G L H e l hi => ⟨by rw [irange_len] at hi; exact hi, fun x H' y => by
    obtain ⟨rfl, rfl⟩ := y
    refine ⟨G, Same.refl _, fun L l => l, ?_⟩
    have e : (irange lo n)[i] = .int (lo + (i : Nat)) := by simp [irange]
    rw [e]
    exact Dq.int _⟩, fun i G L H e l hi => by rw [irange_len] at hi; exact hi⟩
theorem ei_range1 {ta : TA} {n : Int} (h : EvA ta ρ [pu (dI n)]) (h1 : -(2 ^ 62) ≤ n) (h2 : n < 2 ^ 62) : EvI K (iRng1 ta) ρ (irange 0 n.toNat) := ⟨fun Q s q => h.at s fun G' H' vs L e a b r => by
  cases r with
  | cons r1 r2 =>
    cases r2; cases r1
    exact ⟨n, rfl, h1, h2, q G' H' _ e ⟨L, a, b⟩ gives_range⟩⟩
theorem ei_range2 {ta : TA} {m n : Int} (h : EvA ta ρ [pu (dI m), pu (dI n)]) (h1 : -(2 ^ 62) ≤ m) (h2 : m < 2 ^ 62) (h3 : -(2 ^ 62) ≤ n) (h4 : n < 2 ^ 62) : EvI K (iRng2 ta) ρ (irange m (n - m).toNat) := ⟨fun Q s q => h.at s fun G' H' vs L e a b r => by
  cases r with
  | cons r1 r2 =>
    cases r2 with
    | cons r2 r3 =>
      cases r3; cases r1; cases r2
      exact ⟨m, n, rfl, ⟨h1, h2, h3, h4⟩, q G' H' _ e ⟨L, a, b⟩ gives_range⟩⟩
theorem ei_enum {ds : List PyData} (h : EvS K te ρ ds) : EvI K (iEnum K (tCons te tNil)) ρ (ds.zipIdx.map fun p => .tuple [.int ((p.2 : Nat) : Int), p.1]) := ⟨fun Q s q => h.run _ s fun G' H' a vs e s' hc d => by
  obtain ⟨L, sl, la⟩ := id s'
  refine ⟨a, vs, rfl, hc _ _ _ (Same.refl _) la, q G' H' _ e s' ⟨fun i G L H e2 l hi => ?_, fun i G L H e2 l hi => ?_⟩⟩
  · have hi' : i < ds.length := by simpa using hi
    have hq := hc _ _ _ e2 l
    obtain ⟨v, hv, dv⟩ := dpAll_get d (List.getElem?_eq_getElem hi')
    refine ⟨⟨vs, v, hq, hv⟩, fun x H' y => ?_⟩
    obtain ⟨T, x2, rfl, hT, rfl, y⟩ := y
    have ex : x2 = v := Option.some.inj ((y vs hq).symm.trans hv)
    subst ex
    have g := same_upd (o := .tup [.int (i : Nat), x2]) (l.freshG hT)
    refine ⟨_, g, fun L l => l.grow hT, ?_⟩
    have e3 : (ds.zipIdx.map fun p => PyData.tuple [.int ((p.2 : Nat) : Int), p.1])[i] = .tuple [.int ((i : Nat) : Int), ds[i]] := by simp
    rw [e3]
    exact Dq.tup upd_same (.cons (.int _) (.cons (dp_up (e2.trans g) dv) .nil))
  · exact ⟨vs, hc _ _ _ e2 l, by rw [dpAll_len d]; simpa using hi⟩⟩
/-! ### loops -/
/-- one turn and the next; f s x: the next state, or the loop's end -/
def runF {α S : Type} (f : S → α → Sum S Out) : S → List α → Sum S Out
  | s, [] => .inl s
  | s, x :: xs => match f s x with
    | .inl s' => runF f s' xs
    | .inr o => .inr o
theorem runF_app {α S : Type} {f : S → α → Sum S Out} : ∀ {xs ys : List α} {s s' : S}, runF f s xs = .inl s' → runF f s (xs ++ ys) = runF f s' ys
  | [], _, _, _, h => by
    cases h
    rfl
  | x :: xs, ys, s, s', h => by
    show (match f s x with | .inl s' => runF f s' (xs ++ ys) | .inr o => .inr o) = _
    unfold runF at h
    cases q : f s x with
    | inl s1 =>
      rw [q] at h
      exact runF_app h
    | inr o =>
      rw [q] at h
      cases h
def unbk : Out → Out
  | .bk ρ => .nx ρ
  | o => o
def loopOut {S : Type} (E : S → List Sl) : Sum S Out → Out
  | .inl s => .nx (E s)
  | .inr o => unbk o
def turnOut {S : Type} (E : S → List Sl) : Sum S Out → Out
  | .inl s => .go (E s)
  | .inr o => o
/-- an end of a loop's turn that leaves the loop -/
def Out.leaves : Out → Bool
  | .rt _ => true
  | .ro _ => true
  | .bk _ => true
  | .xc _ _ _ => true
  | _ => false
theorem Ex.forF {α S : Type} {wi : TI} {g : TG} {tb : TS} {xs : List α} {en : α → PyData} {T : List Nat} {s0 : S} (E : S → List Sl) (f : S → α → Sum S Out) (hi : EvI K wi ρ (xs.map en)) (h0 : Wk ρ (E s0))
    (hb : ∀ pre x post s, xs = pre ++ x :: post → runF f s0 pre = .inl s → (∀ o, f s x = .inr o → o.leaves = true) ∧ ∃ T ρ1, EvG g T (E s) (dat (en x)) ρ1 ∧ Ex W tb ρ1 (turnOut E (f s x))) :
    Ex W (tFor wi g tb) ρ (loopOut E (runF f s0 xs)) := ⟨fun {G σ L0 H} D s q => hi.run _ s fun G1 H1 J e1 s1 gv => by
  obtain ⟨G2, e2, s2⟩ := s1.weak h0
  refine ⟨fun i m σ H => m = xs.length - i ∧ i ≤ xs.length ∧ ∃ s G', runF f s0 (xs.take i) = .inl s ∧ Same G2 G' ∧ Stt G' (E s) σ L0 H, ⟨xs.length, by simp, Nat.zero_le _, s0, G2, rfl, Same.refl _, s2⟩, ?_⟩
  rintro i m σ' H' ⟨rfl, hi, s', G', hr, e3, s3⟩
  obtain ⟨L3, sl3, la3⟩ := id s3
  have e13 : Same G1 G' := e2.trans e3
  by_cases hlt : i < xs.length
  · right
    have hx : xs[i]? = some xs[i] := List.getElem?_eq_getElem hlt
    have hsplit : xs = xs.take i ++ xs[i] :: xs.drop (i + 1) := by
      rw [List.getElem_cons_drop, List.take_append_drop]
    obtain ⟨hlv, T, ρ1, hg, hbody⟩ := hb _ _ _ s' hsplit hr
    obtain ⟨g1, g2⟩ := gv.go i G' L3 H' e13 la3 (by simpa using hlt)
    refine ⟨g1, fun σ'' H'' => ∃ s G', runF f s0 (xs.take (i + 1)) = .inl s ∧ Same G2 G' ∧ Stt G' (E s) σ'' L0 H'', fun σ'' H'' ⟨s, G'', a, b, c⟩ => ⟨xs.length - (i + 1), by omega, rfl, hlt, s, G'', a, b, c⟩, fun x H4 y => ?_⟩
    obtain ⟨G4, e4, l4, d4⟩ := g2 x H4 y
    have d4 : Dq G4 x (en xs[i]) := by simpa using d4
    have s4 : Stt G4 (E s') σ' L0 H4 := ⟨L3, sl3.up e4, l4 _ la3⟩
    refine hg.run x _ s4 d4 fun G5 σ5 H5 e5 s5 _ => ?_
    have e25 : Same G2 G5 := (e3.trans e4).trans e5
    refine hbody.run _ s5 ?_
    have htake : runF f s0 (xs.take (i + 1)) = runF f s' [xs[i]] := by
      rw [List.take_add_one, hx]
      exact runF_app hr
    cases hf : f s' xs[i] with
    | inl s6 =>
      have z : runF f s0 (xs.take (i + 1)) = .inl s6 := by
        rw [htake]
        show (match f s' xs[i] with | .inl s' => runF f s' [] | .inr o => .inr o) = _
        rw [hf]
        rfl
      have k : ∀ G6 σ6 H6, Same G5 G6 → Stt G6 (E s6) σ6 L0 H6 → ∃ s G', runF f s0 (xs.take (i + 1)) = .inl s ∧ Same G2 G' ∧ Stt G' (E s) σ6 L0 H6 := fun G6 σ6 H6 e6 st => ⟨s6, G6, z, e25.trans e6, st⟩
      exact ⟨k, k⟩
    | inr o =>
      have z : runF f s0 xs = .inr o := by
        rw [hsplit, runF_app hr]
        show (match f s' xs[i] with | .inl s' => runF f s' _ | .inr o => .inr o) = _
        rw [hf]
      rw [z] at q
      have q : Post W D G L0 (unbk o) := q
      have q := q.mono (e1.trans (e2.trans e25))
      have hl := hlv o hf
      cases o with
      | nx _ => cases hl
      | go _ => cases hl
      | ct _ => cases hl
      | bk _ => exact q
      | rt _ => exact q
      | ro _ => exact q
      | xc _ _ _ => exact q
  · left
    have e : i = xs.length := by omega
    subst e
    rw [List.take_length] at hr
    rw [hr] at q
    exact ⟨gv.stop _ G' L3 H' e13 la3 (by simp), q G' σ' H' (e1.trans e13) s3⟩⟩
/-- a loop that goes through: the state by the part taken -/
theorem Ex.for_ {α : Type} {wi : TI} {g : TG} {tb : TS} {xs : List α} {en : α → PyData} (E : List α → List Sl) (hi : EvI K wi ρ (xs.map en)) (h0 : Wk ρ (E []))
    (hb : ∀ pre x post, xs = pre ++ x :: post → ∃ T ρ1, EvG g T (E pre) (dat (en x)) ρ1 ∧ Ex W tb ρ1 (.go (E (pre ++ [x])))) :
    Ex W (tFor wi g tb) ρ (.nx (E xs)) := by
  have key : ∀ ys zs : List α, runF (fun (s : List α) x => (.inl (s ++ [x]) : Sum (List α) Out)) ys zs = .inl (ys ++ zs) := by
    intro ys zs
    induction zs generalizing ys with
    | nil => simp [runF]
    | cons z zs ih =>
      show runF _ (ys ++ [z]) zs = _
      rw [ih]
      simp
  have h := Ex.forF (W := W) (T := []) (s0 := ([] : List α)) (wi := wi) (g := g) (tb := tb) (xs := xs) (en := en) (ρ := ρ) E (fun s x => .inl (s ++ [x])) hi h0 (fun pre x post s e r => by
    rw [key] at r
    have r : [] ++ pre = s := Sum.inl.inj r
    rw [List.nil_append] at r
    subst r
    exact ⟨fun o z => (by cases z), hb pre x post e⟩)
  rw [key] at h
  exact h
end
end Z

set_option Elab.async false
set_option linter.all false
set_option maxRecDepth 100000
set_option maxHeartbeats 2000000
/-! Zd: comprehensions, lists changed, slices, calls of builtins. -/
namespace Z
open PySem PySem.Spec PyProof.Rows L2
theorem Slots.mono {G : Hp} {L0 L1 : List Cell} (h : ∀ c ∈ L0, c ∈ L1) : ∀ {σ ρ L}, Slots G L0 σ ρ L → Slots G L1 σ ρ L
  | _, _, _, .nil => .nil
  | _, _, _, .x s => .x (s.mono h)
  | _, _, _, .p q s => .p q (s.mono h)
  | _, _, _, .o q s => .o q (s.mono h)
  | _, _, _, .b q s => .b (Bw.up _ (Same.refl _) h q) (s.mono h)
/-- the new facts, the borrowed ones by the old frame -/
theorem Slots.mix {G G' : Hp} {L0 L1 : List Cell} (e : Same G G') : ∀ {σ ρ L L'}, Slots G L0 σ ρ L → Slots G' L1 σ ρ L' → Slots G' L0 σ ρ L'
  | _, _, _, _, .nil, .nil => .nil
  | _, _, _, _, .x s, .x s' => .x (s.mix e s')
  | _, _, _, _, .p _ s, .p q s' => .p q (s.mix e s')
  | _, _, _, _, .o _ s, .o q s' => .o q (s.mix e s')
  | _, _, _, _, .b q s, .b _ s' => .b (Bw.up _ e (fun _ z => z) q) (s.mix e s')
/-- slots that tell nothing may hold anything -/
theorem Slots.agree {G : Hp} {L0 : List Cell} : ∀ {σ : L2.St} {ρ : List Sl} {L} {σ' : L2.St}, Slots G L0 σ ρ L → σ'.length = σ.length → (∀ j : Nat, ρ[j]? ≠ some Sl.x → σ'[j]? = σ[j]?) → Slots G L0 σ' ρ L
  | _, _, _, [], .nil, _, _ => .nil
  | _, _, _, [], .x _, h, _ | _, _, _, [], .p _ _, h, _ | _, _, _, [], .o _ _, h, _ | _, _, _, [], .b _ _, h, _ => by simp at h
  | _, _, _, _ :: _, .nil, h, _ => by simp at h
  | _, _, _, v :: σ', .x s, h, k => .x (s.agree (by simpa using h) fun j hj => by simpa using k (j + 1) (by simpa using hj))
  | _, _, _, v :: σ', .p q s, h, k => by
    have e := k 0 (by simp)
    simp at e
    subst e
    exact .p q (s.agree (by simpa using h) fun j hj => by simpa using k (j + 1) (by simpa using hj))
  | _, _, _, v :: σ', .b q s, h, k => by
    have e := k 0 (by simp)
    simp at e
    subst e
    exact .b q (s.agree (by simpa using h) fun j hj => by simpa using k (j + 1) (by simpa using hj))
  | _, _, _, v :: σ', .o q s, h, k => by
    have e := k 0 (by simp)
    simp at e
    subst e
    exact .o q (s.agree (by simpa using h) fun j hj => by simpa using k (j + 1) (by simpa using hj))
/-- the slots vs tell nothing -/
def AllX (ρ : List Sl) : List Nat → Prop
  | [] => True
  | v :: vs => ρ[v]? = some Sl.x ∧ AllX ρ vs
theorem AllX.at {ρ : List Sl} : ∀ {vs : List Nat} {v : Nat}, AllX ρ vs → v ∈ vs → ρ[v]? = some Sl.x
  | [], _, _, h => by simp at h
  | w :: vs, v, ⟨h1, h2⟩, h => by
    rcases List.mem_cons.mp h with z | z
    · rw [z]; exact h1
    · exact h2.at z
theorem wipe_agree {ρ : List Sl} {σ : L2.St} {vs : List Nat} (h : AllX ρ vs) : ∀ j : Nat, ρ[j]? ≠ some Sl.x → (wipe σ vs)[j]? = σ[j]? := fun j hj => by
  rw [wipe_get]
  by_cases hm : j ∈ vs
  · exact absurd (h.at hm) hj
  · rw [if_neg hm]
theorem wipe_two {ρ : List Sl} {σ σ' : L2.St} {vs : List Nat} (h : AllX ρ vs) (e : wipe σ' vs = wipe σ vs) : ∀ j : Nat, ρ[j]? ≠ some Sl.x → σ'[j]? = σ[j]? := fun j hj => by
  rw [← wipe_agree (σ := σ') h j hj, e, wipe_agree h j hj]
theorem len_two {σ σ' : L2.St} {vs : List Nat} (e : wipe σ' vs = wipe σ vs) : σ'.length = σ.length := by
  have := congrArg List.length e
  rwa [wipe_length, wipe_length] at this
section
variable {K : PySem.W.Frag} {W : WX} {ρ ρ' ρ1 : List Sl} {te ta tb : TE} {t u : TS} {R : Rp} {B : Bw} {o : Out} {i : Nat}
theorem filt_take {α : Type} (p : α → Bool) {xs : List α} {i : Nat} {x : α} (h : xs[i]? = some x) : (xs.take (i + 1)).filter p = (xs.take i).filter p ++ (if p x = true then [x] else []) := by
  rw [List.take_add_one, h, List.filter_append]
  congr 1
  by_cases hp : p x = true
  · rw [if_pos hp]; simp [hp]
  · rw [if_neg hp]; simp [hp]
/-- [f x for x in xs if p x] -/
theorem en_lc {α : Type} {wi : TI} {g : TG} {tt : TT} {vs : List Nat} {xs : List α} {en f : α → PyData} {p : α → Bool} (hi : EvI K wi ρ (xs.map en)) (hx : AllX ρ vs) (hz : xs.length ≤ 100000)
    (hb : ∀ x ∈ xs, ∃ T ρ1, EvG g T ρ (dat (en x)) ρ1 ∧ (∀ i ∈ T, i ∈ vs) ∧ Wk ρ1 ρ ∧ EvT tt ρ1 (p x) ∧ (p x = true → Ev te ρ1 (pu (dat (f x))))) : EvN (tLc wi g tt te vs) ρ ((xs.filter p).map f) := ⟨fun {G σ L0 H} Q s q => hi.run _ s fun G1 H1 J e1 s1 gv D hD => by
  obtain ⟨L1, sl1, la1⟩ := id s1
  refine ⟨fun i m H => m = xs.length - i ∧ i ≤ xs.length ∧ ∃ G' ws L', Same G1 G' ∧ Slots G' L0 σ ρ L' ∧ Lay G' (L' ++ ((D, HO.lst ws) :: L0)) H ∧ DqAll G' ws (((xs.take i).filter p).map f), ⟨xs.length, by simp, Nat.zero_le _, G1, [], L1, Same.refl _, sl1, ?_, .nil⟩, ?_⟩
  · exact (la1.cell hD).perm List.perm_middle.symm
  rintro i m H2 ⟨rfl, hi, G2, ws, L2', e2, sl2, la2, d2⟩
  have la2' : Lay G2 ((L2' ++ [(D, HO.lst ws)]) ++ L0) H2 := by
    rw [List.append_assoc]
    exact la2
  by_cases hlt : i < xs.length
  · right
    have hxe : xs[i]? = some xs[i] := List.getElem?_eq_getElem hlt
    obtain ⟨g1, g2⟩ := gv.go i G2 _ H2 e2 la2' (by simpa using hlt)
    refine ⟨g1, fun H => ∃ G' ws L', Same G1 G' ∧ Slots G' L0 σ ρ L' ∧ Lay G' (L' ++ ((D, HO.lst ws) :: L0)) H ∧ DqAll G' ws (((xs.take (i + 1)).filter p).map f), fun H' ⟨G', ws, L', a, b, c, d⟩ => ⟨xs.length - (i + 1), by omega, rfl, hlt, G', ws, L', a, b, c, d⟩, fun x H3 y => ?_⟩
    obtain ⟨G3, e3, l3, d3⟩ := g2 x H3 y
    have d3 : Dq G3 x (en xs[i]) := by simpa using d3
    have la3 : Lay G3 (L2' ++ ((D, HO.lst ws) :: L0)) H3 := by
      have := l3 _ la2'
      rw [List.append_assoc] at this
      exact this
    obtain ⟨T, ρ1, hg, hT, hwk, ht, hf⟩ := hb xs[i] (List.getElem_mem hlt)
    have sw : Stt G3 ρ (wipe σ vs) ((D, HO.lst ws) :: L0) H3 := ⟨L2', ((sl2.up e3).mono fun c hc => List.mem_cons_of_mem _ hc).agree (wipe_length σ vs) (wipe_agree hx), la3⟩
    refine hg.run x _ sw d3 fun G4 σ4 H4 e4 s4 w4 => ?_
    have hw4 : wipe σ4 vs = wipe σ vs := by
      rw [w4 vs hT]
      apply List.ext_getElem?
      intro j
      rw [wipe_get, wipe_get]
      by_cases hj : j ∈ vs
      · simp only [if_pos hj]
        cases σ[j]? <;> rfl
      · simp only [if_neg hj]
    refine ⟨hw4, ?_⟩
    -- back to the outer slots
    have back : ∀ {G5 H5}, Same G3 G5 → Stt G5 ρ1 σ4 ((D, HO.lst ws) :: L0) H5 → ∃ G6 L6, Same G5 G6 ∧ Slots G6 L0 σ ρ L6 ∧ Lay G6 (L6 ++ ((D, HO.lst ws) :: L0)) H5 := fun {G5 H5} e5 s5 => by
      obtain ⟨G6, e6, L6, sl6, la6⟩ := s5.weak hwk
      have sl6' := sl6.agree (σ' := σ) (len_two hw4).symm fun j hj => (wipe_two hx hw4 j hj).symm
      exact ⟨G6, L6, e6, (sl2.up e3).mix (e5.trans e6) sl6', la6⟩
    refine ht.run _ s4 fun G5 H5 e5 s5 => ?_
    cases hp : p xs[i] with
    | true =>
      show te _ _ _
      refine (hf hp).atp s5 fun G6 H6 y e6 s6 r6 => ?_
      obtain ⟨G7, L7, e7, sl7, la7⟩ := back ((e4.trans e5).trans e6) s6
      have hc : H6 D = some (HO.lst ws) := (la7.on (D, HO.lst ws) (List.mem_append_right _ (List.mem_cons_self ..))).1
      have e27 : Same G2 G7 := e3.trans (((e4.trans e5).trans e6).trans e7)
      refine ⟨ws, hc, ?_, G7, ws ++ [y], L7, e2.trans e27, sl7, ?_, ?_⟩
      · rw [dpAll_len d2, List.length_map]
        have h1 : ((xs.take i).filter p).length ≤ (xs.take i).length := List.length_filter_le ..
        have h2 : (xs.take i).length ≤ i := by rw [List.length_take]; exact Nat.min_le_left ..
        exact Nat.lt_of_lt_of_le (by omega : _ < 100001) (by decide)
      · exact ((la7.perm List.perm_middle).store).perm List.perm_middle.symm
      · rw [filt_take p hxe, hp, if_pos rfl, List.map_append]
        exact dpAll_app (dpAll_up e27 d2) (.cons (dp_up e7 r6) .nil)
    | false =>
      show ∃ G' ws L', _
      obtain ⟨G7, L7, e7, sl7, la7⟩ := back (e4.trans e5) s5
      have e27 : Same G2 G7 := e3.trans ((e4.trans e5).trans e7)
      refine ⟨G7, ws, L7, e2.trans e27, sl7, la7, ?_⟩
      rw [filt_take p hxe, hp, if_neg Bool.false_ne_true, List.append_nil]
      exact dpAll_up e27 d2
  · left
    have ei : i = xs.length := by omega
    subst ei
    refine ⟨gv.stop _ G2 _ H2 e2 la2' (by simp), ?_⟩
    rw [List.take_length] at d2
    -- the list taken out again
    have la4 : Lay G2 ((D, HO.lst ws) :: (L2' ++ L0)) H2 := la2.perm List.perm_middle
    have hne := la4.ne
    have eH : H2 = upd (fun b => if b = D then none else H2 b) D (.lst ws) := by
      funext b
      by_cases hb : b = D
      · rw [hb, upd_same]; exact (la4.on _ (List.mem_cons_self ..)).1
      · rw [upd_ne hb, if_neg hb]
    have la5 : Lay G2 (L2' ++ L0) (fun b => if b = D then none else H2 b) := by
      refine ⟨fun b hb => ?_, fun c hc => ?_, ?_⟩
      · by_cases h : b = D
        · rw [h, if_pos rfl]; exact ((la4.on _ (List.mem_cons_self ..)).2).symm
        · rw [if_neg h]
          refine la4.off b fun c hc => ?_
          rcases List.mem_cons.mp hc with z | z
          · subst z; exact fun z => h z.symm
          · exact hb c z
      · rw [if_neg (hne c hc)]; exact la4.on c (List.mem_cons_of_mem _ hc)
      · have := la4.nd
        rw [List.map_cons, List.nodup_cons] at this
        exact this.2
    rw [eH]
    exact q G2 _ D ws (e1.trans e2) ⟨L2', sl2, la5⟩ (if_pos rfl) d2⟩
/-- without an if -/
theorem en_lc0 {α : Type} {wi : TI} {g : TG} {vs : List Nat} {xs : List α} {en f : α → PyData} (hi : EvI K wi ρ (xs.map en)) (hx : AllX ρ vs) (hz : xs.length ≤ 100000)
    (hb : ∀ x ∈ xs, ∃ T ρ1, EvG g T ρ (dat (en x)) ρ1 ∧ (∀ i ∈ T, i ∈ vs) ∧ Wk ρ1 ρ ∧ Ev te ρ1 (pu (dat (f x)))) : EvN (tLc wi g tYes te vs) ρ (xs.map f) := by
  have h := en_lc (p := fun _ => true) hi hx hz (tt := tYes) (g := g) (te := te) (f := f) fun x hxm => by
    obtain ⟨T, ρ1, h1, h2, h3, h4⟩ := hb x hxm
    exact ⟨T, ρ1, h1, h2, h3, ⟨fun Q s q => q _ _ (Same.refl _) s⟩, fun _ => h4⟩
  rw [List.filter_eq_self.mpr (fun _ _ => rfl)] at h
  exact h
/-! ### lists that change -/
theorem oL_cell {G : Hp} {a : Addr} {cs : List Cell} {ds : List PyData} (h : (oL ds).p G a cs) : ∃ vs, cs = [(a, HO.lst vs)] ∧ DqAll G vs ds := h
/-- x.append(e), x an owned list -/
theorem Ex.append {ds : List PyData} {d : PyData} {T : String} (hi : ρ[i]? = some (.o (oL ds))) (he : Ev te ρ (pu (dat d))) (hz : ds.length < 1000000) (hT : T = "list") : Ex W (tDrop (tBM K T rAppend (tVar i) (tCons te tNil))) ρ (.nx (ρ.set i (.o (oL (ds ++ [d]))))) := ⟨fun {G σ L0 H} D s q => by
  obtain ⟨a, cs, e, ⟨vs, hcs, hd⟩, hh, _⟩ := s.get_o hi
  subst hcs
  refine ⟨_, e, .inl ⟨hT, vs, .inl (.inl (hh _ (List.mem_cons_self ..)))⟩, ?_⟩
  refine he.atp s fun G1 H1 v e1 s1 r => ?_
  obtain ⟨a', cs', e', ⟨vs', hcs', hd'⟩, hh', k1, _⟩ := s1.get_o hi
  rw [e] at e'
  injection e' with e'; injection e' with e'; injection e' with e'
  subst e' hcs'
  refine ⟨a, vs', v, rfl, rfl, hh' _ (List.mem_cons_self ..), ?_, ?_⟩
  · rw [dpAll_len hd']; exact Nat.lt_trans hz (by decide)
  · exact q G1 _ _ e1 (k1 (oL (ds ++ [d])) [(a, .lst (vs' ++ [v]))] _ ⟨_, rfl, dpAll_app hd' (.cons r .nil)⟩ fun M l => l.store)⟩
/-- x[k] = e, x an owned list -/
theorem Ex.setitem {ds : List PyData} {d : PyData} {k : Int} {j : Nat} (hi : ρ[i]? = some (.o (oL ds))) (he : Ev te ρ (pu (dat d))) (hk : Ev ta ρ (pu (dI k))) (hj : ixN ds.length k = some j) : Ex W (tAsg te (gSub (tVar i) ta rSetL)) ρ (.nx (ρ.set i (.o (oL (ds.set j d))))) := ⟨fun {G σ L0 H} D s q => he.atp s fun G1 H1 v e1 s1 r => by
  obtain ⟨a, cs, e, _⟩ := s1.get_o hi
  refine ⟨_, e, ?_⟩
  refine hk.atp s1 fun G2 H2 w e2 s2 r2 => ?_
  cases r2
  obtain ⟨a', cs', e', ⟨vs', hcs', hd'⟩, hh', k1, _⟩ := s2.get_o hi
  rw [e] at e'
  injection e' with e'; injection e' with e'; injection e' with e'
  subst e' hcs'
  refine ⟨a, vs', k, j, rfl, rfl, hh' _ (List.mem_cons_self ..), by rw [dpAll_len hd']; exact hj, ?_⟩
  exact q G2 _ _ (e1.trans e2) (k1 (oL (ds.set j d)) [(a, .lst (vs'.set j v))] _ ⟨_, rfl, dpAll_set (dp_up e2 r) j hd'⟩ fun M l => l.store)⟩
/-- x op= e -/
theorem Ex.aug {r : R2} {Ra Rb : Rp} (hi : ρ[i]? = some (.p Ra)) (he : Ev te ρ (pu Rb)) (h : Op2 r (pu Ra) (pu Rb) R) : Ex W (tAug i te r) ρ (.nx (ρ.set i (.p R))) := ⟨fun {G σ L0 H} D s q => by
  obtain ⟨v, e, r1⟩ := s.get_p hi
  refine ⟨v, e, ?_⟩
  refine he.atp s fun G1 H1 w e1 s1 r2 => ?_
  obtain ⟨L, a, b⟩ := id s1
  refine h G1 H1 _ v w _ b (Ra.up e1 r1) r2 fun z rz => ?_
  obtain ⟨G2, e2, s2⟩ := s1.set_p rz i
  exact q G2 _ _ (e1.trans e2) s2⟩
/-! ### slices, + and * -/
structure EvO (to : TO) (ρ : List Sl) (k : Option Int) : Prop where
  run : ∀ {G : Hp} {σ : L2.St} {L0 : List Cell} {H : Hp} (Q : Option Int → Hp → Prop), Stt G ρ σ L0 H → (∀ G' H', Same G G' → Stt G' ρ σ L0 H' → Q k H') → to σ H Q
theorem eo_none : EvO tNoPart ρ none := ⟨fun Q s q => q _ _ (Same.refl _) s⟩
theorem eo_some {k : Int} (h : Ev te ρ (pu (dI k))) : EvO (tPart te) ρ (some k) := ⟨fun Q s q => h.atp s fun G' H' v e s' r => by
  cases r
  exact ⟨k, rfl, q _ _ e s'⟩⟩
def cutD (ds : List PyData) (lo hi : Option Int) : List PyData := (ds.drop (HT.sIx ds.length 0 lo)).take (HT.sIx ds.length ds.length hi - HT.sIx ds.length 0 lo)
theorem cut_all {G : Hp} {vs : List V} {ds : List PyData} (h : DqAll G vs ds) (lo hi : Option Int) : DqAll G (cutV vs lo hi) (cutD ds lo hi) := by
  unfold cutV cutD
  rw [dpAll_len h]
  exact dpAll_take _ (dpAll_drop _ h)
theorem en_sl {tl th : TO} {ds : List PyData} {lo hi : Option Int} (h : Ev te ρ (bL ds)) (h1 : EvO tl ρ lo) (h2 : EvO th ρ hi) : EvN (tSl (rSlL K) te tl th) ρ (cutD ds lo hi) := ⟨fun Q s q =>
  h.run _ s fun G1 H1 v e1 s1 r => h1.run _ s1 fun G2 H2 e2 s2 => h2.run _ s2 fun G3 H3 e3 s3 => by
    obtain ⟨L, a, b⟩ := id s3
    obtain ⟨p, vs, rfl, hv, d⟩ := bl_sq b (r G3 L H3 (e2.trans e3) a b)
    exact ⟨p, vs, rfl, .inl (.inl hv), fun n hn => q G3 H3 n _ ((e1.trans e2).trans e3) s3 hn (cut_all d lo hi)⟩⟩
theorem ev_slT {tl th : TO} {ds : List PyData} {lo hi : Option Int} (h : Ev te ρ (pu (dat (.tuple ds)))) (h1 : EvO tl ρ lo) (h2 : EvO th ρ hi) (hn : ¬ (HT.sIx ds.length 0 lo = 0 ∧ HT.sIx ds.length ds.length hi = ds.length)) : Ev (tSl (rSlT K) te tl th) ρ (pu (dat (.tuple (cutD ds lo hi)))) := Ev.pure fun Q s q =>
  h.run _ s fun G1 H1 v e1 s1 r => h1.run _ s1 fun G2 H2 e2 s2 => h2.run _ s2 fun G3 H3 e3 s3 => by
    obtain ⟨L, a, b⟩ := id s3
    have r : Dq G3 v (.tuple ds) := r G3 L H3 (e2.trans e3) a b
    cases r with
    | @tup _ xs _ hv d =>
      refine ⟨_, _, rfl, .inl (.inl (b.same _ _ hv)), by rw [dpAll_len d]; exact hn, fun n hn => ?_⟩
      have g := s3.grow (o := .tup (cutV xs lo hi)) hn
      exact q _ _ _ (((e1.trans e2).trans e3).trans g.1) g.2 (Dq.tup upd_same (dpAll_up g.1 (cut_all d lo hi)))
theorem o_cat {ds es : List PyData} (hz : ds.length + es.length ≤ 1000000) : Op2N rCat (bL ds) (bL es) (ds ++ es) := fun G H L x y Q l hx hy q => by
  obtain ⟨a, vs, rfl, h, d⟩ := bl_sq l hx
  obtain ⟨b, ws, rfl, k, e⟩ := bl_sq l hy
  exact ⟨a, b, vs, ws, rfl, rfl, h, k, by rw [dpAll_len d, dpAll_len e]; exact Nat.le_trans hz (by decide), fun p hp => q p _ hp (dpAll_app d e)⟩
theorem o_rep {ds : List PyData} {k : Int} (hz : ds.length * k.toNat ≤ 1000000) (h1 : -(2 ^ 63) ≤ k) (h2 : k < 2 ^ 63) : Op2N rRep (bL ds) (pu (dI k)) (List.replicate k.toNat ds).flatten := fun G H L x y Q l hx hy q => by
  obtain ⟨a, vs, rfl, h, d⟩ := bl_sq l hx
  cases hy
  exact ⟨a, k, vs, rfl, rfl, h, h1, h2, by rw [dpAll_len d]; exact Nat.le_trans hz (by decide), fun p hp => q p _ hp (dpAll_rep _ d)⟩
/-! ### builtins -/
abbrev cLen (K : PySem.W.Frag) : List V → Hp → VK → Prop := fun xs H Q => ∃ p ys, xs = [.ref p] ∧ (SqL K H p ys ∨ SqT K H p ys) ∧ Q (.int ys.length) H
theorem cl_len {ds : List PyData} : Cl (cLen K) [bL ds] (dI ds.length) := fun G H L vs Q l r q => by
  cases r with
  | cons h t =>
    cases t
    obtain ⟨a, ws, rfl, hv, d⟩ := bl_sq l h
    refine ⟨a, ws, rfl, .inl (.inl (.inl hv)), q _ ?_⟩
    rw [dpAll_len d]
    exact Dq.int _
abbrev cList (K : PySem.W.Frag) : List V → Hp → VK → Prop := fun xs H Q => ∃ p ys, xs = [.ref p] ∧ (SqL K H p ys ∨ SqT K H p ys) ∧ ∀ l, H l = none → Q (.ref l) (upd H l (.lst ys))
theorem cl_list {ds : List PyData} : ClN (cList K) [bL ds] ds := fun G H L vs Q l r q => by
  cases r with
  | cons h t =>
    cases t
    obtain ⟨a, ws, rfl, hv, d⟩ := bl_sq l h
    exact ⟨a, ws, rfl, .inl (.inl (.inl hv)), fun p hp => q p ws hp d⟩
abbrev cAbs : List V → Hp → VK → Prop := fun xs H Q => ∃ i, xs = [.int i] ∧ Q (.int (if i < 0 then -i else i)) H
theorem cl_abs {n : Int} : Cl cAbs [pu (dI n)] (dI (if n < 0 then -n else n)) := fun G H L vs Q l r q => by
  cases r with
  | cons h t =>
    cases t; cases h
    exact ⟨n, rfl, q _ (Dq.int _)⟩
abbrev cMin2 : List V → Hp → VK → Prop := fun xs H Q => ∃ i j, xs = [.int i, .int j] ∧ Q (.int (if j < i then j else i)) H
theorem cl_min2 {m n : Int} : Cl cMin2 [pu (dI m), pu (dI n)] (dI (if n < m then n else m)) := fun G H L vs Q l r q => by
  cases r with
  | cons h t =>
    cases t with
    | cons h2 t =>
      cases t; cases h; cases h2
      exact ⟨m, n, rfl, q _ (Dq.int _)⟩
abbrev cMax2 : List V → Hp → VK → Prop := fun xs H Q => ∃ i j, xs = [.int i, .int j] ∧ Q (.int (if j > i then j else i)) H
theorem cl_max2 {m n : Int} : Cl cMax2 [pu (dI m), pu (dI n)] (dI (if n > m then n else m)) := fun G H L vs Q l r q => by
  cases r with
  | cons h t =>
    cases t with
    | cons h2 t =>
      cases t; cases h; cases h2
      exact ⟨m, n, rfl, q _ (Dq.int _)⟩
abbrev cInt : List V → Hp → VK → Prop := fun xs H Q => (∃ i, xs = [.int i] ∧ Q (.int i) H) ∨ ∃ k, xs = [.bl k] ∧ Q (.int (if k then 1 else 0)) H
theorem cl_int {n : Int} : Cl cInt [pu (dI n)] (dI n) := fun G H L vs Q l r q => by
  cases r with
  | cons h t =>
    cases t; cases h
    exact .inl ⟨n, rfl, q _ (Dq.int _)⟩
theorem cl_intB {b : Bool} : Cl cInt [pu (dB b)] (dI (if b then 1 else 0)) := fun G H L vs Q l r q => by
  cases r with
  | cons h t =>
    cases t; cases h
    exact .inr ⟨b, rfl, q _ (Dq.int _)⟩
theorem cl_sum {ns : List Int} : Cl (rSum K) [bL (ns.map PyData.int)] (dI ns.sum) := fun G H L vs Q l r q => by
  cases r with
  | cons h t =>
    cases t
    obtain ⟨a, ws, rfl, hv, d⟩ := bl_sq l h
    rw [dpAll_ints d] at hv
    exact ⟨a, ns, rfl, .inl (.inl hv), q _ (Dq.int _)⟩
theorem cl_any {bs : List Bool} : Cl (rAny K) [bL (bs.map PyData.bool)] (dB (bs.any id)) := fun G H L vs Q l r q => by
  cases r with
  | cons h t =>
    cases t
    obtain ⟨a, ws, rfl, hv, d⟩ := bl_sq l h
    rw [dpAll_bools d] at hv
    exact ⟨a, bs, rfl, .inl (.inl hv), q _ (Dq.bl _)⟩
theorem cl_all {bs : List Bool} : Cl (rAll K) [bL (bs.map PyData.bool)] (dB (bs.all id)) := fun G H L vs Q l r q => by
  cases r with
  | cons h t =>
    cases t
    obtain ⟨a, ws, rfl, hv, d⟩ := bl_sq l h
    rw [dpAll_bools d] at hv
    exact ⟨a, bs, rfl, .inl (.inl hv), q _ (Dq.bl _)⟩
/-! x in (a, b), x in [a, b]: ints -/
theorem flat_ints : ∀ ns : List Int, (ns.map V.int).all flatV = true
  | [] => rfl
  | n :: ns => by
    rw [List.map_cons, List.all_cons, flat_ints ns]; rfl
theorem inV_ints (n : Int) : ∀ ns : List Int, inV (.int n) (ns.map V.int) = decide (n ∈ ns)
  | [] => rfl
  | m :: ns => by
    show ((m :: ns).map V.int).any _ = _
    rw [List.map_cons, List.any_cons]
    have ih := inV_ints n ns
    unfold inV at ih
    rw [ih]
    have e : eqV (V.int m) (V.int n) = decide (n = m) := by
      show (m == n) = decide (n = m)
      by_cases h : m = n
      · subst h; simp
      · have h' : ¬ n = m := fun z => h z.symm
        simp [h, h']
    rw [e]
    by_cases h : n = m
    · simp [h]
    · simp [h]
theorem o_inT {n : Int} {ns : List Int} : Op2 (rIn K false) (pu (dI n)) (pu (dat (.tuple (ns.map PyData.int)))) (dB (decide (n ∈ ns))) := fun G H L x y Q l hx hy q => by
  cases hx
  have hy : Dq G y (.tuple (ns.map PyData.int)) := hy
  cases hy with
  | tup h d =>
    rw [dpAll_ints d] at h
    refine ⟨_, _, rfl, .inr (.inl (.inl (l.same _ _ h))), rfl, flat_ints ns, q _ ?_⟩
    show Dq G (.bl (inV _ _)) _
    rw [inV_ints]
    exact Dq.bl _
theorem o_inL {n : Int} {ns : List Int} : Op2 (rIn K false) (pu (dI n)) (bL (ns.map PyData.int)) (dB (decide (n ∈ ns))) := fun G H L x y Q l hx hy q => by
  cases hx
  obtain ⟨a, ws, rfl, hv, d⟩ := bl_sq l hy
  rw [dpAll_ints d] at hv
  refine ⟨_, _, rfl, .inl (.inl (.inl hv)), rfl, flat_ints ns, q _ ?_⟩
  show Dq G (.bl (inV _ _)) _
  rw [inV_ints]
  exact Dq.bl _
theorem o_notInL {n : Int} {ns : List Int} : Op2 (rIn K true) (pu (dI n)) (bL (ns.map PyData.int)) (dB (!decide (n ∈ ns))) := fun G H L x y Q l hx hy q => by
  cases hx
  obtain ⟨a, ws, rfl, hv, d⟩ := bl_sq l hy
  rw [dpAll_ints d] at hv
  refine ⟨_, _, rfl, .inl (.inl (.inl hv)), rfl, flat_ints ns, q _ ?_⟩
  show Dq G (.bl (!inV _ _)) _
  rw [inV_ints]
  exact Dq.bl _
/-- is None -/
def isNone : PyData → Bool
  | .none => true
  | _ => false
theorem o_isN {d : PyData} : Op2 (fun x y H Q => y = .non ∧ Q (.bl (decide (x = .non))) H) (pu (dat d)) (pu (dat .none)) (dB (isNone d)) := fun G H L x y Q l hx hy q => by
  have hx : Dq G x d := hx
  cases hy
  refine ⟨rfl, q _ ?_⟩
  cases hx <;> exact Dq.bl _
theorem o_notN {d : PyData} : Op2 (fun x y H Q => y = .non ∧ Q (.bl (!decide (x = .non))) H) (pu (dat d)) (pu (dat .none)) (dB (!isNone d)) := fun G H L x y Q l hx hy q => by
  have hx : Dq G x d := hx
  cases hy
  refine ⟨rfl, q _ ?_⟩
  cases hx <;> exact Dq.bl _
end
end Z

set_option Elab.async false
set_option linter.all false
set_option maxRecDepth 100000
set_option maxHeartbeats 2000000
/-! Ze: promises, calls, errors, instances. -/
namespace Z
open PySem PySem.Spec PyProof.Rows L2
/-! ### promises -/
inductive Res where
  | ok (R : Rp) | own (O : Op) | err (C : Addr) (n : Int)
def ResP (Q : VK) (E : XK) (G : Hp) (L : List Cell) : Res → Prop
  | .ok R => ∀ G' H' v, Same G G' → Lay G' L H' → R.p G' v → Q v H'
  | .own O => ∀ G' H' a cs, Same G G' → Lay G' (cs ++ L) H' → O.p G' a cs → Q (.ref a) H'
  | .err C n => ∀ G' H' d, Same G G' → Lay G' L H' → H' d = none → E (.ref C) (some d) (upd H' d (atF n))
/-- from arguments A x to the result R x, wherever pre x -/
def SpA {α : Type} (pre : α → Prop) (A : α → List Bw) (R : α → Res) : Sp := fun vs H Q E => ∃ x G L, pre x ∧ Lay G L H ∧ AllB G L vs (A x) ∧ ResP Q E G L (R x)
theorem allB_len {G : Hp} {L : List Cell} : ∀ {vs : List V} {Bs : List Bw}, AllB G L vs Bs → vs.length = Bs.length
  | _, _, .nil => rfl
  | _, _, .cons _ t => by simp [allB_len t]
theorem SpA.len {α : Type} {pre : α → Prop} {A : α → List Bw} {R : α → Res} {n : Nat} (h : ∀ x, (A x).length = n) : ∀ vs H Q E, SpA pre A R vs H Q E → vs.length = n := fun vs H Q E ⟨x, G, L, _, _, a, _⟩ => by
  rw [allB_len a, h]
/-- the slots at a def's start -/
def st0 (Bs : List Bw) (k : Nat) : List Sl := Bs.map Sl.b ++ List.replicate k Sl.x
def Res.out (ρ : List Sl) : Res → Out
  | .ok R => .rt R
  | .own O => .ro O
  | .err C n => .xc ρ C n
theorem slots_x {G : Hp} {L0 : List Cell} : ∀ k, Slots G L0 (List.replicate k none) (List.replicate k Sl.x) []
  | 0 => .nil
  | k + 1 => .x (slots_x k)
theorem slots_start {G : Hp} {L0 : List Cell} (k : Nat) : ∀ {vs : List V} {Bs : List Bw}, AllB G L0 vs Bs → Slots G L0 (vs.map some ++ List.replicate k none) (st0 Bs k) []
  | _, _, .nil => slots_x k
  | _, _, .cons h t => .b h (slots_start k t)
abbrev WofE (E : XK) : WX := fun cls d _ H => E cls d H
theorem SpA.run {α : Type} {pre : α → Prop} {A : α → List Bw} {R : α → Res} {vs : List V} {H : Hp} {Q : VK} {E : XK} {t : TS} {N : List Str} {m : Nat} (h : SpA pre A R vs H Q E) (hm : ∀ x, (A x).length = m)
    (hx : ∀ x, pre x → ∃ ρ, Ex (WofE E) t (st0 (A x) (N.length - m)) ((R x).out ρ)) : t { nx := fun _ H' => Q .non H', rt := Q } (L2.start N vs) H := by
  obtain ⟨x, G, L, hp, la, a, r⟩ := h
  obtain ⟨ρ, ex⟩ := hx x hp
  have hl : vs.length = m := by rw [allB_len a, hm]
  have sl := slots_start (N.length - m) a
  refine ex.run _ (show Stt G _ (L2.start N vs) L H from ⟨[], by unfold L2.start; rw [hl]; exact sl, la⟩) ?_
  cases hR : R x with
  | ok R' =>
    rw [hR] at r
    intro G' ρ' σ' H' v e s rv
    obtain ⟨G2, e2, l2⟩ := s.fin
    exact r G2 H' v (e.trans e2) l2 (R'.up e2 rv)
  | own O =>
    rw [hR] at r
    intro G' H' a cs e l ro
    exact r G' H' a cs e l ro
  | err C n =>
    rw [hR] at r
    intro G' σ' H' d e s hd
    obtain ⟨G2, e2, l2⟩ := s.fin
    exact r G2 H' d (e.trans e2) l2 hd
/-- a body that runs out: None -/
theorem SpA.runN {α : Type} {pre : α → Prop} {A : α → List Bw} {R : α → Res} {vs : List V} {H : Hp} {Q : VK} {E : XK} {t : TS} {N : List Str} {m : Nat} (h : SpA pre A R vs H Q E) (hm : ∀ x, (A x).length = m)
    (hx : ∀ x, pre x → ∃ ρ, (R x = .ok (dat .none) ∧ Ex (WofE E) t (st0 (A x) (N.length - m)) (.nx ρ)) ∨ Ex (WofE E) t (st0 (A x) (N.length - m)) ((R x).out ρ)) : t { nx := fun _ H' => Q .non H', rt := Q } (L2.start N vs) H := by
  obtain ⟨x, G, L, hp, la, a, r⟩ := h
  obtain ⟨ρ, ex⟩ := hx x hp
  rcases ex with ⟨hr, ex⟩ | ex
  · have hl : vs.length = m := by rw [allB_len a, hm]
    have sl := slots_start (N.length - m) a
    refine ex.run _ (show Stt G _ (L2.start N vs) L H from ⟨[], by unfold L2.start; rw [hl]; exact sl, la⟩) fun G' σ' H' e s => ?_
    rw [hr] at r
    obtain ⟨G2, e2, l2⟩ := s.fin
    exact r G2 H' .non (e.trans e2) l2 Dq.non
  · exact SpA.run (pre := fun y => y = x) (A := A) (R := R) (m := m) ⟨x, G, L, rfl, la, a, r⟩ hm fun y hy => ⟨ρ, by rw [hy]; exact ex⟩
section
variable {K : PySem.W.Frag} {W : WX} {ρ ρ' ρ1 : List Sl} {te ta tb : TE} {t u : TS} {tr : TA} {R : Rp} {B : Bw} {o : Out} {i : Nat} {α : Type} {pre : α → Prop} {A : α → List Bw} {F : α → Res} {E : XK} {C : Addr} {n : Int}
/-! ### calls -/
theorem ev_call (x : α) (ha : EvA tr ρ (A x)) (hp : pre x) (hR : F x = .ok R) : Ev (tCall (SpA pre A F) [] E tr) ρ (pu R) := Ev.pure fun {G σ L0 H} Q s q => ha.at s fun G1 H1 vs L e1 sl la r => by
  refine ⟨x, G1, L ++ L0, hp, la, by rw [List.append_nil]; exact r, ?_⟩
  rw [hR]
  exact fun G2 H2 v e2 l2 rv => q G2 H2 v (e1.trans e2) ⟨L, sl.up e2, l2⟩ rv
/-- a call that hands over a new list -/
theorem en_call {ds : List PyData} (x : α) (ha : EvA tr ρ (A x)) (hp : pre x) (hR : F x = .own (oL ds)) : EvN (tCall (SpA pre A F) [] E tr) ρ ds := ⟨fun {G σ L0 H} Q s q => ha.at s fun G1 H1 vs L e1 sl la r => by
  refine ⟨x, G1, L ++ L0, hp, la, by rw [List.append_nil]; exact r, ?_⟩
  rw [hR]
  intro G2 H2 a cs e2 l2 ro
  obtain ⟨ws, hcs, d⟩ := ro
  subst hcs
  have hne := l2.ne
  have eH : H2 = upd (fun b => if b = a then none else H2 b) a (.lst ws) := by
    funext b
    by_cases hb : b = a
    · rw [hb, upd_same]; exact (l2.on _ (List.mem_cons_self ..)).1
    · rw [upd_ne hb, if_neg hb]
  have l3 : Lay G2 (L ++ L0) (fun b => if b = a then none else H2 b) := by
    refine ⟨fun b hb => ?_, fun c hc => ?_, ?_⟩
    · by_cases h : b = a
      · rw [h, if_pos rfl]; exact ((l2.on _ (List.mem_cons_self ..)).2).symm
      · rw [if_neg h]
        refine l2.off b fun c hc => ?_
        rcases List.mem_cons.mp hc with z | z
        · subst z; exact fun z => h z.symm
        · exact hb c z
    · rw [if_neg (hne c hc)]; exact l2.on c (List.mem_cons_of_mem _ hc)
    · have := l2.nd
      rw [List.singleton_append, List.map_cons, List.nodup_cons] at this
      exact this.2
  rw [eH]
  exact q G2 _ a ws (e1.trans e2) ⟨L, sl.up e2, l3⟩ (if_pos rfl) d⟩
/-- an expression that raises -/
structure EvX (W : WX) (te : TE) (ρ : List Sl) (C : Addr) (n : Int) : Prop where
  run : ∀ {G : Hp} {σ : L2.St} {L0 : List Cell} {H : Hp} (Q : VK), Stt G ρ σ L0 H → (∀ G' H' d, Same G G' → Stt G' ρ σ L0 H' → H' d = none → W (.ref C) (some d) σ (upd H' d (atF n))) → te σ H Q
theorem ex_call (x : α) (ha : EvA tr ρ (A x)) (hp : pre x) (hR : F x = .err C n) : EvX (WofE E) (tCall (SpA pre A F) [] E tr) ρ C n := ⟨fun {G σ L0 H} Q s q => ha.at s fun G1 H1 vs L e1 sl la r => by
  refine ⟨x, G1, L ++ L0, hp, la, by rw [List.append_nil]; exact r, ?_⟩
  rw [hR]
  exact fun G2 H2 d e2 l2 hd => q G2 H2 d (e1.trans e2) ⟨L, sl.up e2, l2⟩ hd⟩
/-- in a try -/
theorem ev_callS {E : L2.St → XK} (x : α) (ha : EvA tr ρ (A x)) (hp : pre x) (hR : F x = .ok R) : Ev (tCallS (SpA pre A F) E tr) ρ (pu R) := Ev.pure fun {G σ L0 H} Q s q => ha.at s fun G1 H1 vs L e1 sl la r => by
  refine ⟨x, G1, L ++ L0, hp, la, r, ?_⟩
  rw [hR]
  exact fun G2 H2 v e2 l2 rv => q G2 H2 v (e1.trans e2) ⟨L, sl.up e2, l2⟩ rv
theorem ex_callS (x : α) (ha : EvA tr ρ (A x)) (hp : pre x) (hR : F x = .err C n) : EvX W (tCallS (SpA pre A F) (WE W) tr) ρ C n := ⟨fun {G σ L0 H} Q s q => ha.at s fun G1 H1 vs L e1 sl la r => by
  refine ⟨x, G1, L ++ L0, hp, la, r, ?_⟩
  rw [hR]
  exact fun G2 H2 d e2 l2 hd => q G2 H2 d (e1.trans e2) ⟨L, sl.up e2, l2⟩ hd⟩
theorem Ex.dropX (h : EvX W te ρ C n) : Ex W (tDrop te) ρ (.xc ρ C n) := ⟨fun D s q => h.run _ s fun G' H' d e s' hd => q G' _ H' d e s' hd⟩
theorem Ex.asgX {g : TG} (h : EvX W te ρ C n) : Ex W (tAsg te g) ρ (.xc ρ C n) := ⟨fun D s q => h.run _ s fun G' H' d e s' hd => q G' _ H' d e s' hd⟩
theorem Ex.retX (h : EvX W te ρ C n) : Ex W (tRet te) ρ (.xc ρ C n) := ⟨fun D s q => h.run _ s fun G' H' d e s' hd => q G' _ H' d e s' hd⟩
/-! ### errors with one field, at -/
/-- what __init__ of the errors promises -/
def spAt (K : PySem.W.Frag) : Sp := fun vs H Q _ => ∃ (a C : Addr) (n : Int), vs = [.ref a, .int n] ∧ OexC K C ∧ PySem.W.findIn K (.ref C) "at" = some none ∧ H a = some (exo a C none) ∧
  ∀ dx, H dx = none → dx ≠ a → Q .non (upd (upd H dx (exd dx [(("at" : Str), V.int n)])) a (exo a C (some dx)))
/-- self.at = at -/
theorem pure_at (vs : List V) (H : Hp) (Q : VK) (E : XK) (h : spAt K vs H Q E) : tOst K "at" (tVar 0) (tVar 1) { nx := fun _ H' => Q .non H', rt := Q } (L2.start ["self", "at"] vs) H := by
  obtain ⟨a, C, n, rfl, hC, hn, ha, q⟩ := h
  exact ⟨_, rfl, _, rfl, a, C, rfl, hC, hn, .inl ⟨ha, fun dx hd hne => q dx hd hne⟩⟩
/-- raise C(e) -/
theorem Ex.raise_ {tr : TA} (ha : EvA tr ρ [pu (dI n)]) (hC : OexC K C) (hn : PySem.W.findIn K (.ref C) "at" = some none) : Ex W (fun _ σ H => tMkO C (spAt K) [] tr σ H fun cls d H' => W cls d σ H') ρ (.xc ρ C n) := ⟨fun {G σ L0 H} D s q => ha.at s fun G1 H1 vs L e1 sl la r => by
  cases r with
  | cons h1 h2 =>
    cases h2; cases h1
    refine ⟨(by show 1 ≤ 1000; decide), fun a hA => ⟨a, C, n, rfl, hC, hn, upd_same, fun dx hd hne => ⟨rfl, dx, [(("at" : Str), V.int n)], upd_same, ?_, ?_, ?_⟩⟩⟩
    · rw [upd_ne hne, upd_same]
    · rw [upd_ne hne] at hd
      exact hd
    · rw [upd_ne hne] at hd
      have e : upd (del (upd (upd (upd H1 a (exo a C none)) dx (exd dx [(("at" : Str), V.int n)])) a (exo a C (some dx))) a) dx (.xd [(("at" : Str), V.int n)]) = upd H1 dx (atF n) := by
        funext b
        by_cases hb : b = dx
        · rw [hb, upd_same, upd_same]; rfl
        · rw [upd_ne hb, upd_ne hb]
          by_cases hba : b = a
          · rw [hba, del_same]; exact hA.symm
          · rw [del_ne hba, upd_ne hba, upd_ne hb, upd_ne hba]
      rw [e]
      exact q G1 σ H1 dx e1 ⟨L, sl, la⟩ hd⟩
/-! ### try .. except C as e -/
/-- the error that a suite holds: at a, its dict at d, its field -/
def errR (a d : Addr) (n : Int) : Rp := ⟨fun G v => v = .ref a ∧ G d = some (atF n), fun e h => ⟨h.1, e _ _ h.2⟩⟩
def noSlot (i : Nat) : Out → Out
  | .nx ρ => .nx (ρ.set i .x)
  | .bk ρ => .bk (ρ.set i .x)
  | .ct ρ => .ct (ρ.set i .x)
  | .go ρ => .go (ρ.set i .x)
  | o => o
theorem Stt.set_none {G H : Hp} {σ : L2.St} {L0 : List Cell} (s : Stt G ρ σ L0 H) (i : Nat) : ∃ G', Same G G' ∧ Stt G' (ρ.set i .x) (σ.set i none) L0 H := by
  have w : Wk ρ (ρ.set i .x) := by
    have : ∀ (ρ : List Sl) (i : Nat), Wk ρ (ρ.set i .x) := by
      intro ρ
      induction ρ with
      | nil => intro i; exact .nil
      | cons s ρ ih =>
        intro i
        cases i with
        | zero => exact .x (Wk.refl ρ)
        | succ i => exact .k (ih i)
    exact this ρ i
  obtain ⟨G', e, L, sl, la⟩ := s.weak w
  refine ⟨G', e, L, sl.agree (by simp) fun j hj => ?_, la⟩
  by_cases h : i = j
  · subst h
    by_cases hl : i < ρ.length
    · exact absurd (by simp [hl]) hj
    · have hlen : σ.length = ρ.length := s.len
      rw [List.getElem?_eq_none (by simp; omega), List.getElem?_eq_none (by omega)]
  · rw [List.getElem?_set_ne h]
end
end Z

set_option Elab.async false
set_option linter.all false
set_option maxRecDepth 100000
set_option maxHeartbeats 2000000
/-! Zf: try, what a suite asks of the error, instances, repr. -/
namespace Z
open PySem PySem.Spec PyProof.Rows L2
section
variable {K : PySem.W.Frag} {W : WX} {ρ ρ' ρ1 : List Sl} {te ta tb : TE} {t u : TS} {tr : TA} {R : Rp} {B : Bw} {o : Out} {i : Nat} {α : Type} {pre : α → Prop} {A : α → List Bw} {F : α → Res} {E : XK} {C : Addr} {n : Int}
def Out.quiet : Out → Bool
  | .xc _ _ _ => false
  | _ => true
theorem Post.anyW {W W' : WX} {D : Ends} {G : Hp} {L0 : List Cell} {o : Out} (h : o.quiet = true) (q : Post W D G L0 o) : Post W' D G L0 o := by
  cases o with
  | xc _ _ _ => cases h
  | nx _ => exact q
  | bk _ => exact q
  | ct _ => exact q
  | go _ => exact q
  | rt _ => exact q
  | ro _ => exact q
/-- the body raises nothing -/
theorem Ex.try_ok {c : Value} {ts : Addr → Value → Option Addr → TS} {tb : WX → TS} (h : ∀ W, Ex W (tb W) ρ o) (hq : o.quiet = true) : Ex W (fun D σ H => tb (wAs K c i ts W D) D σ H) ρ o :=
  ⟨fun D s q => (h _).run D s (q.anyW hq)⟩
theorem Post.slot {D : Ends} {G : Hp} {L0 : List Cell} (q : Post W D G L0 (noSlot i o)) : Post W { nx := fun σ' H' => D.nx (σ'.set i none) H', rt := D.rt, bk := fun σ' H' => D.bk (σ'.set i none) H', ct := fun σ' H' => D.ct (σ'.set i none) H' } G L0 o := by
  have key : ∀ {N : L2.St → Hp → Prop} {ρ : List Sl}, Nx N G L0 (ρ.set i .x) → Nx (fun σ' H' => N (σ'.set i none) H') G L0 ρ := fun {N ρ} k G' σ' H' e s => by
    obtain ⟨G2, e2, s2⟩ := s.set_none i
    exact k G2 _ H' (e.trans e2) s2
  cases o with
  | xc _ _ _ => exact q
  | nx _ => exact key q
  | bk _ => exact key q
  | ct _ => exact key q
  | go _ => exact ⟨key q.1, key q.2⟩
  | rt _ => exact q
  | ro _ => exact q
/-- the body raises an error of the class at C, which the clause takes -/
theorem Ex.try_x {c : Value} {ts : Addr → Value → Option Addr → TS} {tb : WX → TS} (h : ∀ W, Ex W (tb W) ρ (.xc ρ1 C n)) (hm : PySem.W.exmOne K (.ref C) c = some true)
    (hs : ∀ a d, Ex W (ts a (.ref C) (some d)) (ρ1.set i (.p (errR a d n))) o) : Ex W (fun D σ H => tb (wAs K c i ts W D) D σ H) ρ (noSlot i o) :=
  ⟨fun D s q => (h _).run D s fun G' σ' H' d e s' hd => ⟨true, hm, fun _ a ha => by
    have g := s'.grow (o := atF n) hd
    obtain ⟨G2, e2, s2⟩ := g.2.set_p (R := errR a d n) ⟨rfl, upd_same⟩ i
    exact (hs a d).run _ s2 (q.slot.mono ((e.trans g.1).trans e2)), fun z => nomatch z⟩⟩
/-! isinstance(e, C), e.at -/
/-- isinstance of the error that a suite holds, the class told in the reading -/
def rIsX (K : PySem.W.Frag) (a : Addr) (cls : Value) (d : Option Addr) : List V → Hp → VK → Prop := fun xs H Q => ∃ (C dd : Addr) (fs : List (Str × V)) (D : Addr) (b : Bool), cls = .ref C ∧ d = some dd ∧ ExcC K C ∧ H dd = some (.xd fs) ∧ xs = [.ref a, .ref D] ∧
  PySem.W.kitOne K (.ref C) (.ref D) = some b ∧ Q (.bl b) H
theorem call_isX {X : Cx} {a : Addr} {oe : Obj} {cls : Value} {d : Option Addr} {pn : List (Addr × Obj)} (hz : Zc cls d oe) (hf : ∃ vs, oe.data = .fields vs) : CallR (X.suite a ((a, oe) :: pn)) (.builtin "isinstance") (rIsX X.K a cls d) := by
  intro pins s σ H xs us Q inv r h
  obtain ⟨C, dd, fs, D, b, rfl, rfl, hC, hdd, rfl, hk, q⟩ := h
  cases r with
  | cons r1 r2 =>
    cases r2 with
    | cons r2 r3 =>
      cases r3; cases r1; cases r2
      have ho := (inv.pin (a, oe) (List.mem_append_left _ (List.mem_cons_self ..))).1
      obtain ⟨vs, hv⟩ := hf
      obtain ⟨mA, hns, _⟩ := (show ObjOk X.prog X.w H s.heap dd (.xd fs) from inv.hok dd _ hdd)
      obtain ⟨od, hod, _⟩ := lookIn_ns hns
      have inst : PySem.W.InstAt s.heap a oe C (some od) := ⟨ho, hz.1, by unfold PySem.W.notCls; rw [hv] <;> rfl, by rw [hz.2]; exact hod⟩
      have hcl : (PySem.W.clsIn X.K C).isSome = true := by
        have z := hC.hd
        unfold PySem.W.hasDictIn at z
        cases e : PySem.W.clsIn X.K C with
        | none => rw [e] at z; cases z
        | some _ => rfl
      exact PySem.W.kia_one (PySem.W.kitx_exc hcl hC.hg hC.hk hC.hs hC.ha hC.hn hC.ht hC.hm) inv.kIn inst hk (fun z => nomatch z) fun tk => ⟨.bl b, H, inv.kept (t' := tk) fun _ _ z => z, rfl, q⟩
/-- e.f of the error that a suite holds, its class told in the reading; e a name -/
def tXg (K : PySem.W.Frag) (a : Addr) (cls : Value) (d : Option Addr) (f : Str) (i : Nat) : TE := fun σ H Q => ∃ (C dd : Addr) (fs : List (Str × V)) (v : V), σ[i]? = some (some (.ref a)) ∧ cls = .ref C ∧ d = some dd ∧ XfC K C ∧
  PySem.W.findIn K (.ref C) f = some none ∧ H dd = some (.xd fs) ∧ fs.lookup f = some v ∧ Q v H
theorem pe_xg {X : Cx} {a : Addr} {oe : Obj} {cls : Value} {d : Option Addr} {pn : List (Addr × Obj)} {x n : Str} {i : Nat} {pos pos' : Pos} (hz : Zc cls d oe) (hf : ∃ vs, oe.data = .fields vs) (he : PE (X.suite a ((a, oe) :: pn)) (.Name x pos') (tVar i))
    (hb : attributeBase (.Name x pos') n X.env (eval (.Name x pos') X.env) = eval (.Name x pos') X.env := by rfl) : PE (X.suite a ((a, oe) :: pn)) (.Attribute (.Name x pos') n pos) (tXg X.K a cls d n i) := by
  refine ⟨fun pins s σ H Q inv h => ?_⟩
  obtain ⟨C, dd, fs, v, hs, rfl, rfl, hC, hno, hdd, hl, q⟩ := h
  exact (pe_xf (C := C) (n := n) hC hno hz hf he hb).run pins s σ H Q inv ⟨_, hs, rfl, rfl, dd, fs, v, rfl, hdd, hl, q⟩
theorem ev_at {a d : Addr} (hi : ρ[i]? = some (.p (errR a d n))) (hC : XfC K C) (hn : PySem.W.findIn K (.ref C) "at" = some none) : Ev (tXg K a (.ref C) (some d) "at" i) ρ (pu (dI n)) := Ev.pure fun {G σ L0 H} Q s q => by
  obtain ⟨v, e, rfl, hd⟩ := s.get_p hi
  refine ⟨C, d, _, .int n, e, rfl, rfl, hC, hn, s.same _ _ hd, by rfl, q _ _ _ (Same.refl _) s (Dq.int n)⟩
/-- the class a name stands for -/
def clsR (C : Addr) : Rp := ⟨fun _ v => v = .ref C, fun _ h => h⟩
theorem ev_cls : Ev (tC (.ref C)) ρ (pu (clsR C)) := Ev.pure fun Q s q => q _ _ _ (Same.refl _) s rfl
theorem ev_isX {a d : Addr} {D : Addr} {b : Bool} (hi : ρ[i]? = some (.p (errR a d n))) (hC : ExcC K C) (hk : PySem.W.kitOne K (.ref C) (.ref D) = some b) : Ev (tCB (rIsX K a (.ref C) (some d)) (tCons (tVar i) (tCons (tC (.ref D)) tNil))) ρ (pu (dB b)) := Ev.pure fun {G σ L0 H} Q s q => by
  obtain ⟨v, e, rfl, hd⟩ := s.get_p hi
  exact ⟨_, e, C, d, _, D, b, rfl, rfl, hC, s.same _ _ hd, rfl, hk, q _ _ _ (Same.refl _) s (Dq.bl b)⟩
/-! ### instances -/
inductive Flds (G : Hp) : List (Str × V) → List (Str × Rp) → Prop
  | nil : Flds G [] []
  | cons {f : Str} {v : V} {R : Rp} {fv fs} : R.p G v → Flds G fv fs → Flds G ((f, v) :: fv) ((f, R) :: fs)
theorem Flds.up {G G' : Hp} (e : Same G G') : ∀ {fv fs}, Flds G fv fs → Flds G' fv fs
  | _, _, .nil => .nil
  | _, _, .cons h t => .cons (Rp.up _ e h) (t.up e)
theorem Flds.get {G : Hp} {f : Str} {R : Rp} : ∀ {fv fs}, Flds G fv fs → fs.lookup f = some R → ∃ v, fv.lookup f = some v ∧ R.p G v
  | _, _, .nil, h => by cases h
  | _, _, .cons (f := g) (v := v) (R := R') (fs := fs) q t, h => by
    unfold List.lookup at h ⊢
    cases e : f == g with
    | true =>
      rw [e] at h
      cases h
      exact ⟨v, rfl, q⟩
    | false =>
      rw [e] at h
      exact t.get h
theorem Flds.no {G : Hp} {f : Str} : ∀ {fv fs}, Flds G fv fs → fs.lookup f = none → fv.lookup f = none
  | _, _, .nil, _ => rfl
  | _, _, .cons (f := g) (fs := fs) q t, h => by
    unfold List.lookup at h ⊢
    cases e : f == g with
    | true => rw [e] at h; cases h
    | false =>
      rw [e] at h
      exact t.no h
/-- an instance that stays -/
def insR (C : Addr) (fs : List (Str × Rp)) : Rp := ⟨fun G v => ∃ a dx fv, v = .ref a ∧ G a = some (.ins C dx fv) ∧ Flds G fv fs, fun e h => by
  obtain ⟨a, dx, fv, h1, h2, h3⟩ := h
  exact ⟨a, dx, fv, h1, e _ _ h2, h3.up e⟩⟩
/-- an instance that is being made -/
def oI (C a : Addr) (fs : List (Str × Rp)) : Op := ⟨fun G b cs => ∃ dx fv, b = a ∧ cs = [(a, HO.ins C dx fv)] ∧ Flds G fv fs, fun e h => by
  obtain ⟨dx, fv, h0, h1, h3⟩ := h
  exact ⟨dx, fv, h0, h1, h3.up e⟩⟩
theorem ev_fld {f : Str} {fs : List (Str × Rp)} (h : Ev te ρ (pu (insR C fs))) (hf : fs.lookup f = some R) (c : Cls K C) (hn : NoAttr K C f) : Ev (tFld K te f) ρ (pu R) := Ev.pure fun {G σ L0 H} Q s q => h.atp s fun G1 H1 v e1 s1 r => by
  obtain ⟨a, dx, fv, rfl, ha, hfl⟩ := r
  obtain ⟨w, hw, rw⟩ := hfl.get hf
  exact ⟨a, C, dx, fv, w, rfl, s1.same _ _ ha, c, hn, hw, q G1 H1 w e1 s1 rw⟩
/-- self.f = e in an __init__, self in slot i -/
theorem putF_new {f : Str} {v : V} : ∀ {fv : List (Str × V)}, fv.lookup f = none → putF f v fv = fv ++ [(f, v)]
  | [], _ => rfl
  | (g, w) :: fv, h => by
    unfold List.lookup at h
    cases e : f == g with
    | true => rw [e] at h; cases h
    | false =>
      rw [e] at h
      have hne : ¬ g = f := fun z => by rw [z] at e; simp at e
      show (if g = f then _ else _) = _
      rw [if_neg hne, putF_new h]
      rfl
theorem flds_app {G : Hp} {f : Str} {v : V} {R : Rp} (r : R.p G v) : ∀ {fv fs}, Flds G fv fs → Flds G (fv ++ [(f, v)]) (fs ++ [(f, R)])
  | _, _, .nil => .cons r .nil
  | _, _, .cons q t => .cons q (flds_app r t)
theorem flds_len {G : Hp} : ∀ {fv fs}, Flds G fv fs → fv.length = fs.length
  | _, _, .nil => rfl
  | _, _, .cons _ t => by simp [flds_len t]
theorem Ex.setfld {a : Addr} {f : Str} {fs : List (Str × Rp)} (hi : ρ[i]? = some (.o (oI C a fs))) (he : Ev te ρ (pu R)) (hf : fs.lookup f = none) (hz : fs.length < 1000) (c : Cls K C) (hn : NoAttr K C f) : Ex W (sFld K (tVar i) te f) ρ (.nx (ρ.set i (.o (oI C a (fs ++ [(f, R)]))))) := ⟨fun {G σ L0 H} D s q => he.atp s fun G1 H1 v e1 s1 r => by
  obtain ⟨a', cs, e, ⟨dx, fv, ha, hcs, hfl⟩, hh, k1, _⟩ := s1.get_o hi
  subst hcs ha
  refine ⟨_, e, _, C, dx, fv, rfl, hh _ (List.mem_cons_self ..), c, hn, by rw [flds_len hfl]; exact hz, ?_⟩
  rw [putF_new (hfl.no hf)]
  exact q G1 _ _ e1 (k1 (oI C _ (fs ++ [(f, R)])) [(_, .ins C dx (fv ++ [(f, v)]))] _ ⟨dx, _, rfl, rfl, flds_app r hfl⟩ fun M l => l.store)⟩
end
/-- what __init__ promises: fields F, or an error; its further arguments by A -/
inductive IRes where
  | ok (fs : List (Str × Rp)) | err (C : Addr) (n : Int)
def SpI {α : Type} (C : Addr) (pre : α → Prop) (A : α → List Bw) (F : α → IRes) : Sp := fun vs H Q E => ∃ x G L a dx ws, pre x ∧ vs = V.ref a :: ws ∧ Lay G ((a, HO.ins C dx []) :: L) H ∧ AllB G L ws (A x) ∧
  match F x with
  | .ok fs => ∀ G' H' dx fv, Same G G' → Lay G' ((a, HO.ins C dx fv) :: L) H' → Flds G' fv fs → Q .non H'
  | .err D n => ∀ G' H' d, Same G G' → Lay G' L H' → H' d = none → E (.ref D) (some d) (upd H' d (atF n))
section
variable {K : PySem.W.Frag} {W : WX} {ρ ρ' ρ1 : List Sl} {te ta tb : TE} {t u : TS} {tr : TA} {R : Rp} {B : Bw} {o : Out} {i : Nat} {α : Type} {pre : α → Prop} {A : α → List Bw} {F : α → IRes} {E : XK} {C D : Addr} {n : Int}
theorem SpI.len {m : Nat} (h : ∀ x, (A x).length = m) : ∀ vs H Q E, SpI C pre A F vs H Q E → vs.length = m + 1 := fun vs H Q E ⟨x, G, L, a, dx, ws, _, e, _, al, _⟩ => by
  rw [e, List.length_cons, allB_len al, h]
def stI (C a : Addr) (Bs : List Bw) (k : Nat) : List Sl := .o (oI C a []) :: (Bs.map Sl.b ++ List.replicate k Sl.x)
theorem SpI.run {vs : List V} {H : Hp} {Q : VK} {t : TS} {N : List Str} {m : Nat} (h : SpI C pre A F vs H Q E) (hm : ∀ x, (A x).length = m)
    (hx : ∀ x a, pre x → (∃ fs ρ, F x = .ok fs ∧ ρ[0]? = some (.o (oI C a fs)) ∧ Ex (WofE E) t (stI C a (A x) (N.length - (m + 1))) (.nx ρ)) ∨
      ∃ D n ρ, F x = .err D n ∧ Ex (WofE E) t (stI C a (A x) (N.length - (m + 1))) (.xc ρ D n)) : t { nx := fun _ H' => Q .non H', rt := Q } (L2.start N vs) H := by
  obtain ⟨x, G, L, a, dx, ws, hp, rfl, la, al, r⟩ := h
  have hl : ws.length = m := by rw [allB_len al, hm]
  have sl : Slots G L (L2.start N (V.ref a :: ws)) (stI C a (A x) (N.length - (m + 1))) [(a, HO.ins C dx [])] := by
    unfold L2.start
    rw [List.length_cons, hl]
    exact .o (O := oI C a []) (cs := [(a, HO.ins C dx [])]) ⟨dx, [], rfl, rfl, .nil⟩ (slots_start _ al)
  have st : Stt G (stI C a (A x) (N.length - (m + 1))) (L2.start N (V.ref a :: ws)) L H := ⟨_, sl, la⟩
  rcases hx x a hp with ⟨fs, ρ, hF, h0, ex⟩ | ⟨D, n, ρ, hF, ex⟩
  · rw [hF] at r
    refine ex.run _ st fun G' σ' H' e s => ?_
    obtain ⟨L', sl', la'⟩ := id s
    obtain ⟨a', cs, M, e1, ⟨dx', fv, ha, hcs, hfl⟩, pm, _⟩ := sl'.get_o h0
    subst ha hcs
    have l2 : Lay G' (M ++ ([(_, HO.ins C dx' fv)] ++ L)) H' := la'.perm (by
      refine (pm.append_right L).trans ?_
      rw [List.append_assoc]
      exact perm_swap _ _ _)
    obtain ⟨G2, e2, l3, _⟩ := l2.freezeAll
    exact r G2 H' dx' fv (e.trans e2) l3 (hfl.up e2)
  · rw [hF] at r
    refine ex.run _ st fun G' σ' H' d e s hd => ?_
    obtain ⟨G2, e2, l2⟩ := s.fin
    exact r G2 H' d (e.trans e2) l2 hd
/-- C(..) -/
theorem ev_make {fs : List (Str × Rp)} (x : α) (ha : EvA tr ρ (A x)) (hp : pre x) (hF : F x = .ok fs) : Ev (tMake C (SpI C pre A F) [] E tr) ρ (pu (insR C fs)) := Ev.pure fun {G σ L0 H} Q s q => ha.at s fun G1 H1 vs L e1 sl la r => fun y dx hy hd hne => by
  have g := same_upd (o := .own y) (la.freshG hd)
  have l1 : Lay (upd G1 dx (.own y)) (L ++ L0) (upd H1 dx (.own y)) := la.grow hd
  have hy1 : upd H1 dx (.own y) y = none := by rw [upd_ne (fun z => hne z.symm)]; exact hy
  have ab : ∀ {vs : List V} {Bs : List Bw}, AllB G1 (L ++ L0) vs Bs → AllB (upd G1 dx (.own y)) (L ++ L0) vs Bs := fun {vs Bs} h => by
    induction h with
    | nil => exact .nil
    | cons h _ ih => exact .cons (Bw.up _ g (fun _ z => z) h) ih
  refine ⟨x, upd G1 dx (.own y), L ++ L0, y, dx, vs, hp, by rw [List.append_nil], l1.cell hy1, ab r, ?_⟩
  rw [hF]
  refine fun G' H' dx' fv e2 l2 hfl => ⟨rfl, ?_⟩
  have hG : G' y = none := (l2.on _ (List.mem_cons_self ..)).2
  have e3 := same_upd (o := HO.ins C dx' fv) hG
  exact q _ H' (.ref y) ((e1.trans (g.trans e2)).trans e3) ⟨L, sl.up ((g.trans e2).trans e3), l2.freeze⟩ ⟨y, dx', fv, rfl, upd_same, hfl.up e3⟩
theorem ex_make (x : α) (ha : EvA tr ρ (A x)) (hp : pre x) (hF : F x = .err D n) : EvX (WofE E) (tMake C (SpI C pre A F) [] E tr) ρ D n := ⟨fun {G σ L0 H} Q s q => ha.at s fun G1 H1 vs L e1 sl la r => fun y dx hy hd hne => by
  have g := same_upd (o := .own y) (la.freshG hd)
  have l1 : Lay (upd G1 dx (.own y)) (L ++ L0) (upd H1 dx (.own y)) := la.grow hd
  have hy1 : upd H1 dx (.own y) y = none := by rw [upd_ne (fun z => hne z.symm)]; exact hy
  have ab : ∀ {vs : List V} {Bs : List Bw}, AllB G1 (L ++ L0) vs Bs → AllB (upd G1 dx (.own y)) (L ++ L0) vs Bs := fun {vs Bs} h => by
    induction h with
    | nil => exact .nil
    | cons h _ ih => exact .cons (Bw.up _ g (fun _ z => z) h) ih
  refine ⟨x, upd G1 dx (.own y), L ++ L0, y, dx, vs, hp, by rw [List.append_nil], l1.cell hy1, ab r, ?_⟩
  rw [hF]
  exact fun G' H' d e2 l2 hd' => q G' H' d (e1.trans (g.trans e2)) ⟨L, sl.up (g.trans e2), l2⟩ hd'⟩
/-- o.m(..) -/
theorem ev_meth {A : α → List Bw} {F : α → Res} {fs : List (Str × Rp)} {m : Str} {B0 : α → Bw} (x : α) (h0 : Ev te ρ (pu (insR C fs))) (hm : fs.lookup m = none) (ha : EvA tr ρ (A x)) (hB : ∀ G L v, (insR C fs).p G v → (B0 x).p G L v) (hp : pre x) (hR : F x = .ok R) :
    Ev (tMeth C m (SpA pre (fun x => B0 x :: A x) F) [] E te tr) ρ (pu R) := Ev.pure fun {G σ L0 H} Q s q => h0.atp s fun G0 H0 v e0 s0 r0 => by
  obtain ⟨a, dx, fv, rfl, hH, hfl⟩ := id r0
  refine ⟨a, dx, fv, rfl, s0.same _ _ hH, hfl.no hm, ?_⟩
  refine ha.at s0 fun G1 H1 vs L e1 sl la r => ?_
  refine ⟨x, G1, L ++ L0, hp, la, by rw [List.append_nil]; exact .cons (hB _ _ _ ((insR C fs).up e1 r0)) r, ?_⟩
  rw [hR]
  exact fun G2 H2 v e2 l2 rv => q G2 H2 v ((e0.trans e1).trans e2) ⟨L, sl.up e2, l2⟩ rv
theorem en_meth {A : α → List Bw} {F : α → Res} {fs : List (Str × Rp)} {m : Str} {B0 : α → Bw} {ds : List PyData} (x : α) (h0 : Ev te ρ (pu (insR C fs))) (hm : fs.lookup m = none) (ha : EvA tr ρ (A x)) (hB : ∀ G L v, (insR C fs).p G v → (B0 x).p G L v) (hp : pre x) (hR : F x = .own (oL ds)) :
    EvN (tMeth C m (SpA pre (fun x => B0 x :: A x) F) [] E te tr) ρ ds := ⟨fun {G σ L0 H} Q s q => h0.atp s fun G0 H0 v e0 s0 r0 => by
  obtain ⟨a, dx, fv, rfl, hH, hfl⟩ := id r0
  refine ⟨a, dx, fv, rfl, s0.same _ _ hH, hfl.no hm, ?_⟩
  refine ha.at s0 fun G1 H1 vs L e1 sl la r => ?_
  refine ⟨x, G1, L ++ L0, hp, la, by rw [List.append_nil]; exact .cons (hB _ _ _ ((insR C fs).up e1 r0)) r, ?_⟩
  rw [hR]
  intro G2 H2 a2 cs e2 l2 ro
  obtain ⟨ws, hcs, d⟩ := ro
  subst hcs
  obtain ⟨H3, hn3, rfl, l3⟩ := Lay.uncell l2
  exact q G2 H3 _ ws ((e0.trans e1).trans e2) ⟨L, sl.up e2, l3⟩ hn3 d⟩
theorem ex_meth {A : α → List Bw} {F : α → Res} {fs : List (Str × Rp)} {m : Str} {B0 : α → Bw} (x : α) (h0 : Ev te ρ (pu (insR C fs))) (hm : fs.lookup m = none) (ha : EvA tr ρ (A x)) (hB : ∀ G L v, (insR C fs).p G v → (B0 x).p G L v) (hp : pre x) (hR : F x = .err D n) :
    EvX (WofE E) (tMeth C m (SpA pre (fun x => B0 x :: A x) F) [] E te tr) ρ D n := ⟨fun {G σ L0 H} Q s q => h0.atp s fun G0 H0 v e0 s0 r0 => by
  obtain ⟨a, dx, fv, rfl, hH, hfl⟩ := id r0
  refine ⟨a, dx, fv, rfl, s0.same _ _ hH, hfl.no hm, ?_⟩
  refine ha.at s0 fun G1 H1 vs L e1 sl la r => ?_
  refine ⟨x, G1, L ++ L0, hp, la, by rw [List.append_nil]; exact .cons (hB _ _ _ ((insR C fs).up e1 r0)) r, ?_⟩
  rw [hR]
  exact fun G2 H2 d e2 l2 hd => q G2 H2 d ((e0.trans e1).trans e2) ⟨L, sl.up e2, l2⟩ hd⟩
end
end Z

set_option Elab.async false
set_option linter.all false
set_option maxRecDepth 100000
set_option maxHeartbeats 2000000
/-! Zg: calls that may raise within a try, repr, the law's own call. -/
namespace Z
open PySem PySem.Spec PyProof.Rows L2
theorem pass_no {X : Cx} : Passes (L2.CX X.prog X.w) X (fun _ _ _ => False) := fun pins σ H s e s' inv c => by
  obtain ⟨a, B, H', cls, d, _, _, _, _, _, _, _, z⟩ := c
  exact z.elim
section
variable {X : Cx} {CX : CXT} {k : Nat} {f C : Addr} {fd : FuncData} {ps : List Str} {sp : Sp} {E : L2.St → XK} {x m : Str} {p pos apos : Pos} {e o : Expr} {es : List Expr} {ta : TE} {t : TA}
/-- C(..) in a try: what is raised is wished for at the slots of the call -/
def tMakeS (C : Addr) (sp : Sp) (E : L2.St → XK) (t : TA) : TE := fun σ H Q => t σ H fun vs H1 => ∀ y dy, H1 y = none → H1 dy = none → dy ≠ y → sp (.ref y :: vs) (upd (upd H1 dy (.own y)) y (.ins C dy [])) (fun v H2 => v = .non ∧ Q (.ref y) H2) (E σ)
theorem pe_makeS (M : Mk X.K C f) (F : FnOk X.prog X.w X.K X.mg X.base CX k f fd ps sp) (hr : Room (k + 1) X.A) (hg : Gl X x) (hm : X.mg x = some (.ref C)) (hb : Binds X.K fd ps []) (hx : ∀ σ, PassesAt CX X σ (E σ))
    (ha : PA X (e :: es) t) (hdb : (x == ("__debug__" : Str)) = false := by decide) (he : starEach (e :: es) X.env = (false, eval e X.env) :: starEach es X.env := by rfl) (hpl : (backTo pos (starEach es X.env)).any (·.1) = false := by rfl) :
    PE X (.Call (.Name x p) (e :: es) [] pos) (tMakeS C sp E t) := by
  refine ⟨fun pins s σ H Q inv h => wpAny_Call_Name_kw (ld_glob inv hg hm ?_ hdb)⟩
  refine PySem.W.callWith_K (h₀ := X.base) inv.ok.mod.kin M.kp (thn (ha.run pos pins s σ H _ inv h) fun us s1 got => ?_) he hpl
  obtain ⟨vs, H1, J, r, q⟩ := got
  refine ⟨J.kIn, ?_⟩
  let n := s1.heap.objs.size
  have hq := q (n + 1) n (J.hok.fresh (Nat.le_succ _)) (J.hok.fresh (Nat.le_refl _)) (Nat.ne_of_lt (Nat.lt_succ_self _))
  have J2 := Inv.made (C := C) J
  have hlen : (Value.ref (n + 1) :: us).length = ps.length := by
    have e1 : (V.ref (n + 1) :: vs).length = ps.length := F.len _ _ _ _ hq
    rw [List.length_cons, ← r.length]
    rw [List.length_cons] at e1
    exact e1
  have bind := hb _ (Value.ref (n + 1) :: us) J2.kIn (by rw [List.append_nil]; exact hlen)
  rw [List.append_nil] at bind
  have rel : Vals (V.ref (n + 1) :: vs) (Value.ref (n + 1) :: us) := .cons rfl r
  have go := F.run _ X.stack _ _ ⟨Value.ref (n + 1) :: us, []⟩ _ _ _ (E σ) (hr.make C us []) (J2.env0.make C us []) bind rel hq
  refine wpAny_call (make_map (f := f) J.kIn M.makes M.init (beq_iff_eq.mp M.fn) (codeAny_mono go fun res s' hres => ?_))
  match res, hres with
  | .error ex, hres => exact hx σ pins _ _ ex s' J2 hres
  | .ok (.ret u), hres =>
    obtain ⟨v, H', J3, rv, ev, q3⟩ := J2.after hres
    subst ev
    exact ⟨rv, V.ref (n + 1), H', J3, rfl, q3⟩
  | .ok .next, hres => exact hres.elim
  | .ok .brk, hres => exact hres.elim
  | .ok .cont, hres => exact hres.elim
/-- o.m(..) in a try -/
def tMethSx (C : Addr) (m : Str) (sp : Sp) (E : L2.St → XK) (ta : TE) (t : TA) : TE := fun σ H Q => ta σ H fun x H1 => ∃ a dx fs, x = .ref a ∧ H1 a = some (.ins C dx fs) ∧ fs.lookup m = none ∧ t σ H1 fun vs H2 => sp (x :: vs) H2 Q (E σ)
theorem pe_methSx {pl : Sem Bool} (ho : PE X o ta) (c : Cls X.K C) (hm : Meth X.K C m f) (F : FnOk X.prog X.w X.K X.mg X.base CX k f fd ps sp) (hr : Room k X.A) (hb : Binds X.K fd ps []) (hx : ∀ σ, PassesAt CX X σ (E σ)) (ha : PA X (e :: es) t)
    (he : starEach (e :: es) X.env = (false, eval e X.env) :: starEach es X.env := by rfl) (hpl : (backTo pos (starEach es X.env)).any (·.1) = false := by rfl)
    (ht : eval (.Call (.Attribute o m apos) (e :: es) [] pos) X.env = (do
      let w ← eval o X.env
      standAt apos.atName
      let (g, first) ← holding [w] (getMethod w m pl)
      callWith pos g first (backTo pos (starEach (e :: es) X.env)) (backToKw pos (keywordEach [] X.env))) := by rfl) :
    PE X (.Call (.Attribute o m apos) (e :: es) [] pos) (tMethSx C m sp E ta t) := by
  refine ⟨fun pins s σ H Q inv h => PySem.W.methodCall_KW (pl := pl) (thn (ho.run pins s σ H _ inv h) fun u s1 got => ?_) ht⟩
  obtain ⟨x, H1, J, rx, a, dx, fs, rfl, hHa, hl, q⟩ := got
  cases rx
  refine getmeth_ok J hHa c hm hl ?_
  refine PySem.W.callWith_K (first := [.ref a]) (h₀ := X.base) J.ok.mod.kin hm.kp (thn (ha.run pos pins s1 σ H1 _ J q) fun us s2 got => ?_) he hpl
  obtain ⟨vs, H2, J2, r, q2⟩ := got
  exact ⟨J2.kIn, run_fnS (us := .ref a :: us) (vs := .ref a :: vs) F hr hb (hx σ) J2 (.cons rfl r) q2⟩
/-- repr of data, where no repr is under way -/
abbrev cRepr : List V → Hp → VK → Prop := fun xs H Q => ∃ a d, xs = [.ref a] ∧ Dq H (.ref a) d ∧ d.showable = true ∧ d.hasDict = false ∧ d.depth ≤ 60 ∧ d.shown.length ≤ sizeLine ∧ Q (.str d.shown) H
theorem call_repr (hgd : X.A.guards = some []) (hu : X.A.units + 70 < cLine) : CallR X (.builtin "repr") cRepr := by
  intro pins s σ H xs us Q inv r h
  obtain ⟨a, d, rfl, hd, h1, h2, h3, h4, q⟩ := h
  cases r with
  | cons r1 r2 =>
    cases r2; cases r1
    obtain ⟨as, rd⟩ := L2.Dp.reads inv d _ _ (dq_dp (K := X.K) hd) rfl
    refine repr_of_reads' rd h1 (fun z => by rw [h2] at z; cases z) hgd (by omega) (fun _ _ e => e) (fun h' u tk hk => ?_) h4
    exact ⟨.str d.shown, H, inv.kept (t' := tk) hk, ⟨u, rfl⟩, q⟩
end
/-! ### the law's own call: nothing runs around it -/
/-- a def's promise where the law is called -/
def RunAt (P : Program) (w : World) (K : PySem.W.Frag) (mg : Str → Option Value) (base : Heap) (CX : CXT) (k : Nat) (f : Addr) (fd : FuncData) (ps : List Str) (sp : Sp) : Prop :=
  ∀ (s : Shared) (H : Hp) (args : Args) (us : List Value) (vs : List V) (Q : VK) (E : XK), Room k callerA → Env0 P w K mg base callerA [] s H → BindsTo s fd args (ps.zip us) → Vals vs us → sp vs H Q E →
    codeAny (model P w) callerA (.call (.ref f) args) (CR CX [] P w H s Q E) s
/-- the script, where it is no object of the text: known to its object -/
def scriptH (K : PySem.W.Frag) (a : Addr) (o : Obj) (xs : List V) : Hp := fun b => if b = a ∧ K.lookup a = none then some (.frz o (.lst xs)) else none
theorem run_law {P : Program} {w : World} {K : PySem.W.Frag} {mg mb : Str → Option Value} {CX : CXT} {k : Nat} {f a : Addr} {fd : FuncData} {x : Str} {sp : Sp} {s : Shared} {us : List Value} {ns : List Int}
    (kin : K.In s.heap) (glob : s.heap.Ns mainGlobals mg) (blt : s.heap.Ns builtinsNs mb) (bltIs : ∀ x : Str, x ≠ "__name__" → mb x = bootBuiltins x) (lim : s.heap.NoLimit) (gens : s.gens = #[])
    (there : s.heap.get? a = some { cls := .type "list", data := .seq us.toArray }) (isInts : IntsAre us ns) (small : ns.length ≤ sizeLine) (hr : Room k callerA)
    (F : ∀ base : Heap, K.In base → base.Ns mainGlobals mg → RunAt P w K mg base CX k f fd [x] sp) (binds : ∀ (s : Shared) (u : Value), BindsTo s fd ⟨[u], []⟩ [(x, u)])
    (hsp : ∀ H : Hp, SqL K H a (ns.map V.int) → sp [.ref a] H (fun v _ => v = .bl true) fun _ _ _ => False) (hCX : ∀ H e s', CX [] H s (fun _ _ _ => False) e s' → False) :
    codeAny (model P w) callerA (.call (.ref f) ⟨[.ref a], []⟩) (fun r s' => r = .ok (.ret (.bool true)) ∧ OldK s.heap s'.heap ∧ s'.os = s.os ∧ AllBare s'.gens) s := by
  have rel : Vals (ns.map V.int) us := vals_ints isInts
  have lenU : us.length = ns.length := isInts.length
  let o : Obj := { cls := .type "list", data := .seq us.toArray }
  let H := scriptH K a o (ns.map V.int)
  have Hat : ∀ b u, H b = some u → b = a ∧ K.lookup a = none ∧ u = .frz o (.lst (ns.map V.int)) := fun b u e => by
    have e : (if b = a ∧ K.lookup a = none then some (HO.frz o (.lst (ns.map V.int))) else none) = some u := e
    by_cases h : b = a ∧ K.lookup a = none
    · rw [if_pos h] at e
      exact ⟨h.1, h.2, (Option.some.inj e).symm⟩
    · rw [if_neg h] at e
      cases e
  have sq : SqL K H a (ns.map V.int) := by
    cases e : K.lookup a with
    | none => exact .inl (.inr ⟨o, if_pos ⟨rfl, e⟩⟩)
    | some q =>
      have z := kin a q e
      rw [there] at z
      cases z
      exact .inr ⟨_, us.toArray, _, e, rfl, rfl, rfl, by rw [List.size_toArray, lenU]; exact small, by simpa using rel⟩
  have hok : HOk P w H s.heap := fun b u e => by
    obtain ⟨rfl, _, rfl⟩ := Hat b u e
    exact ⟨there, by rw [List.length_map]; exact small, us, _, rel, there⟩
  have away : ∀ {b : Addr} {q : Obj}, K.lookup b = some q → H b = none := fun {b q} e => by
    cases z : H b with
    | none => rfl
    | some u =>
      obtain ⟨rfl, h, _⟩ := Hat b u z
      rw [h] at e
      cases e
  have dict : ∀ {b : Addr} {m : Str → Option Value}, s.heap.Ns b m → (hidT s.heap H).Ns b m := fun {b m} ⟨q, es, ep, e, d, r⟩ => by
    refine ⟨q, es, ep, hidT_get e ?_, d, r⟩
    cases z : H b with
    | none => rfl
    | some u =>
      obtain ⟨rfl, _, _⟩ := Hat b u z
      rw [there] at e
      cases e
      have d : Data.seq us.toArray _ = Data.dict es ep := d
      cases d
  have kinB : K.In (hidT s.heap H) := fun b q e => hidT_get (kin b q e) (away e)
  obtain ⟨mc, c1, c2⟩ := lim
  have env : Env0 P w K mg (hidT s.heap H) callerA [] s H :=
    { frames := rfl, mod := ⟨kinB, dict glob, ⟨mb, dict blt, bltIs⟩, ⟨mc, dict c1, c2⟩⟩, bs := fun b q e => of_hidT e, bsz := Nat.le_of_eq (hidT_size _ _), funs := trivial, frf := fun b hb => (by cases (show b ∈ ([] : List Addr) from hb)), hok := hok, bare := .of_eq gens }
  refine codeAny_mono (F _ kinB (dict glob) s H ⟨[.ref a], []⟩ [.ref a] [.ref a] _ _ hr env (binds s (.ref a)) (.cons rfl .nil) (hsp H sq)) fun r s' h => ?_
  match r, h with
  | .error e, h => exact (hCX H e s' h).elim
  | .ok .next, h => exact h.elim
  | .ok .brk, h => exact h.elim
  | .ok .cont, h => exact h.elim
  | .ok (.ret u), h =>
    obtain ⟨v, H', os, bare, un, hok', rv, q⟩ := h
    have q : v = .bl true := q
    subst q
    cases rv
    refine ⟨rfl, OldK.of_keep fun b q e => ?_, os, bare⟩
    cases z : H b with
    | none => exact un.keep b q e z (fun m => by cases (show b ∈ ([] : List Addr) from m)) (by simp)
    | some u =>
      obtain ⟨rfl, _, rfl⟩ := Hat b u z
      obtain ⟨e2, _⟩ := hok' _ _ (un.frzs _ _ _ z)
      rw [e] at there
      cases there
      exact e2
/-- the goal behind the head, from the law's promise where it is called -/
theorem walk_at {l : PySem.W.OpenLaw} {n k : Nat} {q : Program} {loose : List Str} {XP : (Str → Option Value) → Heap → Prop} {YP : World → Heap → Prop} {d : DefRec} {K : Params → PySem.W.Frag} {CX : World → CXT} {sp : World → Sp} {x : Str}
    (hn : l.most = some n) (hn2 : n ≤ sizeLine) (hdf : d.params.defaults = []) (hr : Room k callerA) (hY : ∀ (w : World) (h : Heap), YP w h → (K w.params).In h)
    (F : ∀ (w : World) (mg : Str → Option Value) (fa : Addr) (h : Heap), (K w.params).In h → h.Ns mainGlobals mg → mg d.name = some (.ref fa) →
      ∃ fd : FuncData, (∀ (s : Shared) (u : Value), BindsTo s fd ⟨[u], []⟩ [(x, u)]) ∧ ∀ base : Heap, (K w.params).In base → base.Ns mainGlobals mg → RunAt l.prog w (K w.params) mg base (CX w) k fa fd [x] (sp w))
    (hsp : ∀ (w : World) (H : Hp) (a : Addr) (ns : List Int), ns.length ≤ n → SqL (K w.params) H a (ns.map V.int) → sp w [.ref a] H (fun v _ => v = .bl true) fun _ _ _ => False)
    (hCX : ∀ (w : World) (H : Hp) (s : Shared) (e : Value) (s' : Shared), CX w [] H s (fun _ _ _ => False) e s' → False) : PySem.W.WalkO q loose XP YP l.row.toRowW d [] (fun f vs => PySem.call f vs) := by
  refine Att.attach_call hn hdf fun w s₀ s₁ mg mb fa o pm cd doc a vs ns G Y ho hd hcd hmg hobj hints hlen hg => ?_
  have kin := hY w _ Y
  obtain ⟨fd, hb, hF⟩ := F w mg fa _ kin G.T.g hmg
  exact run_law kin G.T.g G.T.b G.T.builtins G.T.nolimit hg hobj hints (Nat.le_trans hlen hn2) hr hF hb (fun H hS => hsp w H a ns hlen hS) fun H e s' => hCX w H s₁ e s'
/-- the law's def at its call: its body, with nothing under way -/
theorem fun_at {P : Program} {w : World} {K : PySem.W.Frag} {mg : Str → Option Value} {base : Heap} {x qual : Str} {st : Stmt} {f : Addr} {fd : FuncData} {N ps : List Str} {k : Nat} {sp : Sp} (F : Fun K x qual st f fd) (S : FnScope N ps (defScope st))
    (len : ∀ vs H Q E, sp vs H Q E → vs.length = ps.length)
    (body : ∀ (cdv : Value) (s : Shared) (H : Hp) (vs : List V) (Q : VK) (E : XK), Room k (callerA.deeper (envOfC qual (defScope st) s.heap.objs.size f cdv)) → (callerA.deeper (envOfC qual (defScope st) s.heap.objs.size f cdv)).guards = some [] → sp vs H Q E →
      ∃ t, PSs (cxOf (L2.CX P w) P w K mg base N qual (defScope st) f cdv callerA [] s H E) (defBody st) t ∧ t { nx := fun _ H' => Q .non H', rt := Q } (L2.start N vs) H) : RunAt P w K mg base (L2.CX P w) (k + 1) f fd ps sp := by
  obtain ⟨oc, od, kV, doc, pm, an, cdv, ct, osl, rfl, lk, hcd⟩ := F.ex
  intro s H args us vs Q E hr env bind rel hsp
  have lens := len _ _ _ _ hsp
  have kin : K.In s.heap := env.mod.kin.keeps fun b o e => (env.bs b o e).1
  have lim : s.heap.NoLimit := env.mod.nolimit.keeps fun b o e => (env.bs b o e).1
  have kinds : ∀ y ∈ ps.zip us, (defScope st).names.lookup y.1 = some .local ∨ ((defScope st).names.lookup y.1 = some .cell ∧ ((cellsFrom (s.heap.objs.size + 1) (defScope st).names []).lookup y.1).isSome = true) := by
    rintro ⟨n, v⟩ hy
    exact (S.par n (List.of_mem_zip hy).1).imp id fun z => ⟨z, PySem.W.cellsFrom_some _ _ _ (.inl z)⟩
  obtain ⟨t, ht, hq⟩ := body cdv s H vs Q E (hr.deeper _) rfl hsp
  refine codeAny_call_function hr.depth (kin _ _ lk) rfl S.co S.gen rfl (PySem.W.codeRec_of kin hcd) (bind _ _ _ _ ?_)
  refine wpAny_newFunctionEnv_cells S.kind kinds fun e he s1 new => ?_
  subst he
  refine ⟨lim.keeps new.toInCall.keep, codeAny_func ?_⟩
  have inv : Inv (cxOf (L2.CX P w) P w K mg base N qual (defScope st) f cdv callerA [] s H E) [] (L2.start N vs) H s1 := inv_start S hr.hd env lens rel new
  refine wpAny_mono (ht.run [] s1 _ H _ inv hq) (fun fl s' got => ?_) fun e s' got => got
  match fl, got with
  | .ret u, ⟨v, σ', H', J, rv, q⟩ => exact ⟨v, H', J.os, J.bare, J.base, J.hok, rv, q⟩
  | .next, ⟨σ', H', J, q⟩ => exact ⟨.non, H', J.os, J.bare, J.base, J.hok, rfl, q⟩
  | .brk, ⟨σ', H', J, q⟩ => exact q.elim
  | .cont, ⟨σ', H', J, q⟩ => exact q.elim
end Z

set_option Elab.async false
set_option linter.all false
set_option maxRecDepth 100000
set_option maxHeartbeats 2000000
/-! Zh: data arguments, told-of-some values, handing over. -/
namespace Z
open PySem PySem.Spec PyProof.Rows L2
section
variable {K : PySem.W.Frag} {W : WX} {ρ ρ' ρ1 : List Sl} {te ta tb : TE} {t u : TS} {tr : TA} {R : Rp} {B Ba Bb : Bw} {o : Out} {i j : Nat} {E : XK} {C : Addr} {n : Int}
/-- arguments that are data -/
structure EvD (ta : TA) (ρ : List Sl) (ds : List PyData) : Prop where
  all : EvA ta ρ (ds.map fun d => pu (dat d))
theorem ed_nil : EvD tNil ρ [] := ⟨ea_nil⟩
theorem ed_cons {d : PyData} {ds : List PyData} (h : Ev te ρ (pu (dat d))) (t : EvD tr ρ ds) : EvD (tCons te tr) ρ (d :: ds) := ⟨ea_cons h t.all⟩
theorem ev_tupD {ds : List PyData} (h : EvD tr ρ ds) (hl : ds.length ≤ 1000) : Ev (tTup tr) ρ (pu (dat (.tuple ds))) := ev_tup h.all hl
theorem en_lstD {ds : List PyData} (h : EvD tr ρ ds) (hl : ds.length ≤ 1000) : EvN (tLst tr) ρ ds := en_lst h.all hl
/-- a list that stays is a list -/
theorem Op2.l {r : R2} {ds : List PyData} (h : Op2 r (bL ds) Bb R) : Op2 r (pu (dat (.list ds))) Bb R := fun G H L x y Q l hx hy q => h G H L x y Q l (bl_of_dat _ _ _ hx) hy q
theorem Op2.r {r : R2} {ds : List PyData} (h : Op2 r Ba (bL ds) R) : Op2 r Ba (pu (dat (.list ds))) R := fun G H L x y Q l hx hy q => h G H L x y Q l hx (bl_of_dat _ _ _ hy) q
theorem Op2N.l {r : R2} {ds es : List PyData} (h : Op2N r (bL ds) Bb es) : Op2N r (pu (dat (.list ds))) Bb es := fun G H L x y Q l hx hy q => h G H L x y Q l (bl_of_dat _ _ _ hx) hy q
theorem Op2N.r {r : R2} {ds es : List PyData} (h : Op2N r Ba (bL ds) es) : Op2N r Ba (pu (dat (.list ds))) es := fun G H L x y Q l hx hy q => h G H L x y Q l hx (bl_of_dat _ _ _ hy) q
theorem Op2.is {r : R2} {R' : Rp} (h : Op2 r Ba Bb R) (e : R = R') : Op2 r Ba Bb R' := by rw [← e]; exact h
/-! ### values of which some is told -/
def exR {α : Type} (P : α → Prop) (F : α → Rp) : Rp := ⟨fun G v => ∃ x, P x ∧ (F x).p G v, fun e h => by
  obtain ⟨x, p, q⟩ := h
  exact ⟨x, p, (F x).up e q⟩⟩
theorem Slots.open_ {α : Type} {P : α → Prop} {F : α → Rp} {G : Hp} {L0 : List Cell} : ∀ {σ ρ L} {i : Nat}, Slots G L0 σ ρ L → ρ[i]? = some (.p (exR P F)) → ∃ x, P x ∧ Slots G L0 σ (ρ.set i (.p (F x))) L
  | _, _, _, _, .nil, h => by simp at h
  | _, _, _, 0, .x _, h => by simp at h
  | _, _, _, 0, .b _ _, h => by simp at h
  | _, _, _, 0, .o _ _, h => by simp at h
  | _, _, _, 0, .p q s, h => by
    simp at h; subst h
    obtain ⟨x, p, r⟩ := q
    exact ⟨x, p, .p r s⟩
  | _, _, _, i + 1, .x s, h => by
    obtain ⟨x, p, s'⟩ := s.open_ (i := i) (by simpa using h)
    exact ⟨x, p, .x s'⟩
  | _, _, _, i + 1, .b q s, h => by
    obtain ⟨x, p, s'⟩ := s.open_ (i := i) (by simpa using h)
    exact ⟨x, p, .b q s'⟩
  | _, _, _, i + 1, .p q s, h => by
    obtain ⟨x, p, s'⟩ := s.open_ (i := i) (by simpa using h)
    exact ⟨x, p, .p q s'⟩
  | _, _, _, i + 1, .o q s, h => by
    obtain ⟨x, p, s'⟩ := s.open_ (i := i) (by simpa using h)
    exact ⟨x, p, .o q s'⟩
theorem Ex.open_ {α : Type} {P : α → Prop} {F : α → Rp} (i : Nat) (hi : ρ[i]? = some (.p (exR P F))) (h : ∀ x, P x → Ex W t (ρ.set i (.p (F x))) o) : Ex W t ρ o := ⟨fun D s q => by
  obtain ⟨L, sl, la⟩ := s
  obtain ⟨x, p, sl'⟩ := sl.open_ hi
  exact (h x p).run D ⟨L, sl', la⟩ q⟩
theorem Ev.ex {α : Type} {P : α → Prop} {F : α → Rp} (x : α) (p : P x) (h : Ev te ρ (pu (F x))) : Ev te ρ (pu (exR P F)) := h.imp fun _ _ _ q => ⟨x, p, q⟩
/-! ### handing over -/
theorem Ex.retO {ds : List PyData} (h : EvN te ρ ds) : Ex W (tRet te) ρ (.ro (oL ds)) := ⟨fun D s q => h.run _ s fun G' H' p vs e s' hp d => by
  obtain ⟨G2, e2, l2⟩ := s'.fin
  exact q G2 _ p [(p, .lst vs)] (e.trans e2) (l2.cell hp) ⟨vs, rfl, dpAll_up e2 d⟩⟩
/-- an owned list, handed over -/
theorem Ex.retOv {ds : List PyData} (hi : ρ[i]? = some (.o (oL ds))) : Ex W (tRet (tVar i)) ρ (.ro (oL ds)) := ⟨fun D s q => by
  obtain ⟨L, sl, la⟩ := s
  obtain ⟨a, cs, M, e, hO, pm, _⟩ := sl.get_o hi
  have l2 : Lay _ (M ++ (cs ++ _)) _ := la.perm (by
    refine (pm.append_right _).trans ?_
    rw [List.append_assoc]
    exact perm_swap cs M _)
  obtain ⟨G2, e2, l3, _⟩ := l2.freezeAll
  exact ⟨_, e, q G2 _ a cs e2 l3 ((oL ds).up e2 hO)⟩⟩
/-- a pair (n, owned list) -/
def oPair (n : Int) (ds : List PyData) : Op := ⟨fun G a cs => ∃ l vs, G a = some (.tup [.int n, .ref l]) ∧ cs = [(l, HO.lst vs)] ∧ DqAll G vs ds, fun e h => by
  obtain ⟨l, vs, h1, h2, h3⟩ := h
  exact ⟨l, vs, e _ _ h1, h2, dpAll_up e h3⟩⟩
theorem Ex.retPair {ds : List PyData} (hi : ρ[i]? = some (.p (dI n))) (hj : ρ[j]? = some (.o (oL ds))) : Ex W (tRet (tTup (tCons (tVar i) (tCons (tVar j) tNil)))) ρ (.ro (oPair n ds)) := ⟨fun {G σ L0 H} D s q => by
  obtain ⟨v, e, r⟩ := s.get_p hi
  cases r
  obtain ⟨L, sl, la⟩ := s
  obtain ⟨a, cs, M, e', ⟨vs, hcs, hd⟩, pm, _⟩ := sl.get_o hj
  subst hcs
  refine ⟨_, e, _, e', (by show 2 ≤ sizeLine; decide), fun p hp => ?_⟩
  have g := same_upd (o := HO.tup [.int n, .ref a]) (la.freshG hp)
  have l2 : Lay (upd G p (HO.tup [.int n, .ref a])) (M ++ ([(a, HO.lst vs)] ++ L0)) (upd H p (HO.tup [.int n, .ref a])) := (la.grow (o := HO.tup [.int n, .ref a]) hp).perm (by
    refine (pm.append_right _).trans ?_
    rw [List.append_assoc]
    exact perm_swap _ M _)
  obtain ⟨G2, e2, l3, _⟩ := l2.freezeAll
  exact q G2 _ p _ (g.trans e2) l3 ⟨a, vs, e2 _ _ upd_same, rfl, dpAll_up (g.trans e2) hd⟩⟩
/-- a, b = f(..), f handing over a pair of a number and a list -/
theorem Ex.asgPair {α : Type} {pre : α → Prop} {A : α → List Bw} {F : α → Res} {ds : List PyData} (x : α) (ha : EvA tr ρ (A x)) (hp : pre x) (hR : F x = .own (oPair n ds)) (hj : j < ρ.length) :
    Ex W (tAsg (tCall (SpA pre A F) [] E tr) (gTup K 2 (gCons (gName i) (gCons (gName j) gNil)))) ρ (.nx ((ρ.set i (.p (dI n))).set j (.o (oL ds)))) := ⟨fun {G σ L0 H} D s q => ha.at s fun G1 H1 vs L e1 sl la r => by
  refine ⟨x, G1, L ++ L0, hp, la, by rw [List.append_nil]; exact r, ?_⟩
  rw [hR]
  intro G2 H2 a cs e2 l2 ro
  obtain ⟨l, ws, ht, hcs, d⟩ := ro
  subst hcs
  obtain ⟨H3, hn3, rfl, l3⟩ := Lay.uncell l2
  refine ⟨a, [.int n, .ref l], rfl, .inl (.inl (l2.same _ _ ht)), rfl, _, _, rfl, _, _, rfl, rfl, ?_⟩
  have s3 : Stt G2 ρ σ L0 H3 := ⟨L, sl.up e2, l3⟩
  obtain ⟨G4, e4, s4⟩ := s3.set_p (R := dI n) (v := .int n) (Dq.int n) i
  obtain ⟨G5, e5, s5⟩ := s4.set_o (O := oL ds) (a := l) (cs := [(l, .lst ws)]) (H' := upd H3 l (.lst ws)) ⟨ws, rfl, dpAll_up e4 d⟩ j (by simpa using hj) (fun M lm => lm.cell hn3)
  exact q G5 _ _ ((e1.trans e2).trans (e4.trans e5)) s5⟩
/-- f(..).append(e): a new list, changed and let go -/
theorem Ex.appNew {ds : List PyData} {d : PyData} {T : String} (h : EvN te ρ ds) (he : Ev ta ρ (pu (dat d))) (hz : ds.length < 1000000) (hT : T = "list") : Ex W (tDrop (tBM K T rAppend te (tCons ta tNil))) ρ (.nx ρ) := ⟨fun {G σ L0 H} D s q => h.run _ s fun G1 H1 p vs e1 s1 hp hd => by
  refine ⟨.inl ⟨hT, vs, .inl (.inl upd_same)⟩, ?_⟩
  obtain ⟨L, sl, la⟩ := s1
  -- the list as a frame's cell while e is evaluated
  have st : Stt G1 ρ σ ((p, HO.lst vs) :: L0) (upd H1 p (.lst vs)) := ⟨L, sl.mono fun c hc => List.mem_cons_of_mem _ hc, (la.cell hp).perm List.perm_middle.symm⟩
  refine he.atp st fun G2 H2 v e2 s2 r => ?_
  obtain ⟨L2, sl2, la2⟩ := s2
  have la3 := la2.perm List.perm_middle
  have hc := (la3.on _ (List.mem_cons_self ..)).1
  refine ⟨p, vs, v, rfl, rfl, hc, by rw [dpAll_len hd]; exact Nat.lt_trans hz (by decide), ?_⟩
  have la4 := (la3.store (u := HO.lst (vs ++ [v])))
  have hG : G2 p = none := (la3.on _ (List.mem_cons_self ..)).2
  have g := same_upd (o := HO.lst (vs ++ [v])) hG
  exact q _ _ _ ((e1.trans e2).trans g) ⟨L2, (((sl.mix e2 sl2)).up g), la4.freeze⟩⟩
theorem enum_map {α : Type} {en : α → PyData} : ∀ (xs : List α) (k : Nat), ((xs.map en).zipIdx k).map (fun p => PyData.tuple [.int ((p.2 : Nat) : Int), p.1]) = (xs.zipIdx k).map fun p => .tuple [.int ((p.2 : Nat) : Int), en p.1]
  | [], _ => rfl
  | x :: xs, k => by
    rw [List.map_cons, List.zipIdx_cons, List.map_cons, List.zipIdx_cons, List.map_cons, enum_map xs (k + 1)]
theorem ei_enumT {α : Type} {en : α → PyData} {xs : List α} (h : EvS K te ρ (xs.map en)) : EvI K (iEnum K (tCons te tNil)) ρ (xs.zipIdx.map fun p => .tuple [.int ((p.2 : Nat) : Int), en p.1]) := by
  rw [← enum_map xs 0]
  exact ei_enum h
theorem ei_rangeT {n : Int} (h : EvA tr ρ [pu (dI n)]) (h1 : -(2 ^ 62) ≤ n) (h2 : n < 2 ^ 62) : EvI K (iRng1 tr) ρ ((List.range n.toNat).map fun (k : Nat) => .int (k : Int)) := by
  have e : ((List.range n.toNat).map fun (k : Nat) => PyData.int (k : Int)) = irange 0 n.toNat := by
    unfold irange
    refine List.map_congr_left fun k _ => ?_
    rw [Int.zero_add]
  rw [e]
  exact ei_range1 h h1 h2
theorem ei_listT {α : Type} {en : α → PyData} {xs : List α} (h : EvS K te ρ (xs.map en)) : EvI K (iList K te) ρ (xs.map en) := ei_list h
theorem len_map_le {α β : Type} {f : α → β} {xs : List α} {n : Nat} (h : xs.length ≤ n) : (xs.map f).length ≤ n := by rw [List.length_map]; exact h
end
theorem cl_lenP {K : PySem.W.Frag} {ds : List PyData} : Cl (cLen K) [pu (dat (.list ds))] (dI ds.length) := fun G H L vs Q l r q => by
  cases r with
  | cons h t => exact cl_len G H L _ Q l (.cons (bl_of_dat _ _ _ h) t) q
theorem cl_listP {K : PySem.W.Frag} {ds : List PyData} : ClN (cList K) [pu (dat (.list ds))] ds := fun G H L vs Q l r q => by
  cases r with
  | cons h t => exact cl_list G H L _ Q l (.cons (bl_of_dat _ _ _ h) t) q
theorem o_inT2 {K : PySem.W.Frag} {n a b : Int} : Op2 (rIn K false) (pu (dI n)) (pu (dat (.tuple [.int a, .int b]))) (dB (decide (n ∈ [a, b]))) := o_inT (ns := [a, b])
theorem SpA.go {α : Type} {pre : α → Prop} {A : α → List Bw} {F : α → Res} {vs : List V} {H : Hp} {Q : VK} {E : XK} {t : TS} (h : SpA pre A F vs H Q E) (N : List Str) (m : Nat) (hm : ∀ x, (A x).length = m)
    (hx : ∀ x, pre x → ∃ r ρ, F x = r ∧ Ex (WofE E) t (st0 (A x) (N.length - m)) (r.out ρ)) : t { nx := fun _ H' => Q .non H', rt := Q } (L2.start N vs) H :=
  h.run (N := N) hm fun x p => by
    obtain ⟨r, ρ, e, ex⟩ := hx x p
    exact ⟨ρ, by rw [e]; exact ex⟩
/-- where the body may run out -/
theorem SpA.goN {α : Type} {pre : α → Prop} {A : α → List Bw} {F : α → Res} {vs : List V} {H : Hp} {Q : VK} {E : XK} {t : TS} (h : SpA pre A F vs H Q E) (N : List Str) (m : Nat) (hm : ∀ x, (A x).length = m)
    (hx : ∀ x, pre x → (∃ ρ, F x = .ok (dat .none) ∧ Ex (WofE E) t (st0 (A x) (N.length - m)) (.nx ρ)) ∨ ∃ r ρ, F x = r ∧ Ex (WofE E) t (st0 (A x) (N.length - m)) (r.out ρ)) : t { nx := fun _ H' => Q .non H', rt := Q } (L2.start N vs) H :=
  h.runN (N := N) hm fun x p => by
    rcases hx x p with ⟨ρ, e, ex⟩ | ⟨r, ρ, e, ex⟩
    · exact ⟨ρ, .inl ⟨e, ex⟩⟩
    · exact ⟨ρ, .inr (by rw [e]; exact ex)⟩
end Z

set_option Elab.async false
set_option linter.all false
set_option maxRecDepth 100000
set_option maxHeartbeats 2000000
/-! Zk: the rules that name the written part, with its name handed over. -/
namespace Z
open PySem PySem.Spec PyProof.Rows L2
section
variable (K : PySem.W.Frag) {X : Cx}
theorem kix_list (h : X.K = K := by rfl) : IxR X (rIxL K) := by subst h; exact ix_list
theorem kix_tup (h : X.K = K := by rfl) : IxR X (rIxT K) := by subst h; exact ix_tup
theorem ksl_list (h : X.K = K := by rfl) : SlR X (rSlL K) := by subst h; exact sl_list
theorem ksl_tup (h : X.K = K := by rfl) : SlR X (rSlT K) := by subst h; exact sl_tup
theorem kop_in (h : X.K = K := by rfl) : OpR X (compareOp .In) (rIn K false) := by subst h; exact op_in_seq
theorem kop_notIn (h : X.K = K := by rfl) : OpR X (compareOp .NotIn) (rIn K true) := by subst h; exact op_notIn_seq
theorem kop_eqD (hu : X.A.units + 64 < cLine) (h : X.K = K := by rfl) : OpR X (compareOp .Eq) (rEqD K) := by subst h; exact op_eqD hu
theorem kop_neD (hu : X.A.units + 64 < cLine) (h : X.K = K := by rfl) : OpR X (compareOp .NotEq) (rNeD K) := by subst h; exact op_neD hu
theorem kcall_len (h : X.K = K := by rfl) : CallR X (.builtin "len") (cLen K) := by subst h; exact call_len_seq
theorem kcall_list (h : X.K = K := by rfl) : CallR X (.type "list") (cList K) := by subst h; exact call_list_of
theorem kcall_sum (hc : X.calm = true) (h : X.K = K := by rfl) : CallR X (.builtin "sum") (rSum K) := by subst h; exact cr_sum hc
theorem kcall_any (hc : X.calm = true) (h : X.K = K := by rfl) : CallR X (.builtin "any") (rAny K) := by subst h; exact cr_any hc
theorem kcall_all (hc : X.calm = true) (h : X.K = K := by rfl) : CallR X (.builtin "all") (rAll K) := by subst h; exact cr_all hc
variable {tg l e : Expr} {tl te : TE} {ta : TA} {es elts : List Expr} {k kk n : Nat} {t : TGs} {pos p tpos : Pos} {f : Str}
theorem kpi_list (hl : PE X l tl) (h : X.K = K := by rfl) : PI X tg l (iList K tl) := by subst h; exact pi_list hl
theorem kpi_tup (hl : PE X l tl) (h : X.K = K := by rfl) : PI X tg l (iTup K tl) := by subst h; exact pi_tup hl
theorem kpi_enum (hg : Gl X "enumerate") (hm : X.mg "enumerate" = none) (ha : PA X [e] ta) (hs : starEach [e] X.env = [(false, eval e X.env)] := by rfl) (h : X.K = K := by rfl) : PI X (.Tuple elts kk tpos) (.Call (.Name "enumerate" p) [e] [] pos) (iEnum K ta) := by
  subst h; exact pi_enum hg hm ha hs
theorem kpg_tup (hc : X.calm = true) (hp : PGs X es t) (hn : (assignEach es X.env).length = n := by rfl) (hst : (assignEach es X.env).findIdx? (·.1) = none := by rfl) (h : X.K = K := by rfl) : PG X (.Tuple es k pos) (gTup K n t) := by
  subst h; exact pg_tup hc hp hn hst
theorem kps_fld {value o : Expr} {ta tv : TE} {pos' : Pos} (ho : PE X o ta) (hv : PE X value tv) (hs : swapsWith value (some (.Attribute o f pos')) pos.line X.env = pure false) (h : X.K = K := by rfl) : PS X (.Assign [.Attribute o f pos'] value pos) (sFld K ta tv f) := by subst h; exact ps_fld ho hv hs
theorem kpe_fld (he : PE X e te) (hb : attributeBase e f X.env (eval e X.env) = eval e X.env) (h : X.K = K := by rfl) : PE X (.Attribute e f pos) (tFld K te f) := by subst h; exact pe_fld he hb
end
end Z

set_option Elab.async false
set_option linter.all false
set_option maxRecDepth 100000
set_option maxHeartbeats 2000000
/-! Zl: makes and methods in a try. -/
namespace Z
open PySem PySem.Spec PyProof.Rows L2
section
variable {K : PySem.W.Frag} {W : WX} {ρ ρ' ρ1 : List Sl} {te ta tb : TE} {t u : TS} {tr : TA} {R : Rp} {B : Bw} {o : Out} {i : Nat} {α : Type} {pre : α → Prop} {A : α → List Bw} {C D : Addr} {n : Int}
theorem ev_makeS {F : α → IRes} {E : L2.St → XK} {fs : List (Str × Rp)} (x : α) (ha : EvA tr ρ (A x)) (hp : pre x) (hF : F x = .ok fs) : Ev (tMakeS C (SpI C pre A F) E tr) ρ (pu (insR C fs)) := Ev.pure fun {G σ L0 H} Q s q => ha.at s fun G1 H1 vs L e1 sl la r => fun y dx hy hd hne => by
  have g := same_upd (o := .own y) (la.freshG hd)
  have l1 : Lay (upd G1 dx (.own y)) (L ++ L0) (upd H1 dx (.own y)) := la.grow hd
  have hy1 : upd H1 dx (.own y) y = none := by rw [upd_ne (fun z => hne z.symm)]; exact hy
  have ab : ∀ {vs : List V} {Bs : List Bw}, AllB G1 (L ++ L0) vs Bs → AllB (upd G1 dx (.own y)) (L ++ L0) vs Bs := fun {vs Bs} h => by
    induction h with
    | nil => exact .nil
    | cons h _ ih => exact .cons (Bw.up _ g (fun _ z => z) h) ih
  refine ⟨x, upd G1 dx (.own y), L ++ L0, y, dx, vs, hp, rfl, l1.cell hy1, ab r, ?_⟩
  rw [hF]
  refine fun G' H' dx' fv e2 l2 hfl => ⟨rfl, ?_⟩
  have hG : G' y = none := (l2.on _ (List.mem_cons_self ..)).2
  have e3 := same_upd (o := HO.ins C dx' fv) hG
  exact q _ H' (.ref y) ((e1.trans (g.trans e2)).trans e3) ⟨L, sl.up ((g.trans e2).trans e3), l2.freeze⟩ ⟨y, dx', fv, rfl, upd_same, hfl.up e3⟩
theorem ex_makeS {F : α → IRes} (x : α) (ha : EvA tr ρ (A x)) (hp : pre x) (hF : F x = .err D n) : EvX W (tMakeS C (SpI C pre A F) (WE W) tr) ρ D n := ⟨fun {G σ L0 H} Q s q => ha.at s fun G1 H1 vs L e1 sl la r => fun y dx hy hd hne => by
  have g := same_upd (o := .own y) (la.freshG hd)
  have l1 : Lay (upd G1 dx (.own y)) (L ++ L0) (upd H1 dx (.own y)) := la.grow hd
  have hy1 : upd H1 dx (.own y) y = none := by rw [upd_ne (fun z => hne z.symm)]; exact hy
  have ab : ∀ {vs : List V} {Bs : List Bw}, AllB G1 (L ++ L0) vs Bs → AllB (upd G1 dx (.own y)) (L ++ L0) vs Bs := fun {vs Bs} h => by
    induction h with
    | nil => exact .nil
    | cons h _ ih => exact .cons (Bw.up _ g (fun _ z => z) h) ih
  refine ⟨x, upd G1 dx (.own y), L ++ L0, y, dx, vs, hp, rfl, l1.cell hy1, ab r, ?_⟩
  rw [hF]
  exact fun G' H' d e2 l2 hd' => q G' H' d (e1.trans (g.trans e2)) ⟨L, sl.up (g.trans e2), l2⟩ hd'⟩
theorem ev_methSx {E : L2.St → XK} {F : α → Res} {fs : List (Str × Rp)} {m : Str} {B0 : α → Bw} (x : α) (h0 : Ev te ρ (pu (insR C fs))) (hm : fs.lookup m = none) (ha : EvA tr ρ (A x)) (hB : ∀ G L v, (insR C fs).p G v → (B0 x).p G L v) (hp : pre x) (hR : F x = .ok R) :
    Ev (tMethSx C m (SpA pre (fun x => B0 x :: A x) F) E te tr) ρ (pu R) := Ev.pure fun {G σ L0 H} Q s q => h0.atp s fun G0 H0 v e0 s0 r0 => by
  obtain ⟨a, dx, fv, rfl, hH, hfl⟩ := id r0
  refine ⟨a, dx, fv, rfl, s0.same _ _ hH, hfl.no hm, ?_⟩
  refine ha.at s0 fun G1 H1 vs L e1 sl la r => ?_
  refine ⟨x, G1, L ++ L0, hp, la, .cons (hB _ _ _ ((insR C fs).up e1 r0)) r, ?_⟩
  rw [hR]
  exact fun G2 H2 v e2 l2 rv => q G2 H2 v ((e0.trans e1).trans e2) ⟨L, sl.up e2, l2⟩ rv
theorem en_methSx {E : L2.St → XK} {F : α → Res} {fs : List (Str × Rp)} {m : Str} {B0 : α → Bw} {ds : List PyData} (x : α) (h0 : Ev te ρ (pu (insR C fs))) (hm : fs.lookup m = none) (ha : EvA tr ρ (A x)) (hB : ∀ G L v, (insR C fs).p G v → (B0 x).p G L v) (hp : pre x) (hR : F x = .own (oL ds)) :
    EvN (tMethSx C m (SpA pre (fun x => B0 x :: A x) F) E te tr) ρ ds := ⟨fun {G σ L0 H} Q s q => h0.atp s fun G0 H0 v e0 s0 r0 => by
  obtain ⟨a, dx, fv, rfl, hH, hfl⟩ := id r0
  refine ⟨a, dx, fv, rfl, s0.same _ _ hH, hfl.no hm, ?_⟩
  refine ha.at s0 fun G1 H1 vs L e1 sl la r => ?_
  refine ⟨x, G1, L ++ L0, hp, la, .cons (hB _ _ _ ((insR C fs).up e1 r0)) r, ?_⟩
  rw [hR]
  intro G2 H2 a2 cs e2 l2 ro
  obtain ⟨ws, hcs, d⟩ := ro
  subst hcs
  obtain ⟨H3, hn3, rfl, l3⟩ := Lay.uncell l2
  exact q G2 H3 _ ws ((e0.trans e1).trans e2) ⟨L, sl.up e2, l3⟩ hn3 d⟩
theorem ex_methSx {F : α → Res} {fs : List (Str × Rp)} {m : Str} {B0 : α → Bw} (x : α) (h0 : Ev te ρ (pu (insR C fs))) (hm : fs.lookup m = none) (ha : EvA tr ρ (A x)) (hB : ∀ G L v, (insR C fs).p G v → (B0 x).p G L v) (hp : pre x) (hR : F x = .err D n) :
    EvX W (tMethSx C m (SpA pre (fun x => B0 x :: A x) F) (WE W) te tr) ρ D n := ⟨fun {G σ L0 H} Q s q => h0.atp s fun G0 H0 v e0 s0 r0 => by
  obtain ⟨a, dx, fv, rfl, hH, hfl⟩ := id r0
  refine ⟨a, dx, fv, rfl, s0.same _ _ hH, hfl.no hm, ?_⟩
  refine ha.at s0 fun G1 H1 vs L e1 sl la r => ?_
  refine ⟨x, G1, L ++ L0, hp, la, .cons (hB _ _ _ ((insR C fs).up e1 r0)) r, ?_⟩
  rw [hR]
  exact fun G2 H2 d e2 l2 hd => q G2 H2 d ((e0.trans e1).trans e2) ⟨L, sl.up e2, l2⟩ hd⟩
end
end Z

set_option Elab.async false
set_option linter.all false
set_option maxRecDepth 100000
set_option maxHeartbeats 2000000
set_option exponentiation.threshold 4000
/-! Zm: data that may be compared, and shown. -/
namespace Z
open PySem PySem.Spec PyProof.Rows L2
/-- no strings' surprises, at most this deep -/
structure Sh (k : Nat) (d : PyData) : Prop where
  lay : d.canLay0 = true
  deep : d.depth ≤ k
theorem sh_int {k : Nat} {i : Int} : Sh k (.int i) := ⟨rfl, Nat.zero_le _⟩
theorem sh_bool {k : Nat} {b : Bool} : Sh k (.bool b) := ⟨rfl, Nat.zero_le _⟩
theorem sh_none {k : Nat} : Sh k .none := ⟨rfl, Nat.zero_le _⟩
theorem canAll {xs : List PyData} (h : ∀ x ∈ xs, x.canLay0 = true) : PyData.canLayAll0 xs = true := by
  induction xs with
  | nil => rfl
  | cons x xs ih =>
    rw [PyData.canLayAll0, h x (List.mem_cons_self ..), ih fun y hy => h y (List.mem_cons_of_mem _ hy)]; rfl
theorem deepAll {k : Nat} {xs : List PyData} (h : ∀ x ∈ xs, x.depth ≤ k) : PyData.depthAll xs ≤ k := by
  induction xs with
  | nil => exact Nat.zero_le _
  | cons x xs ih =>
    rw [PyData.depthAll]
    exact Nat.max_le.mpr ⟨h x (List.mem_cons_self ..), ih fun y hy => h y (List.mem_cons_of_mem _ hy)⟩
theorem sh_list {k : Nat} {xs : List PyData} (h : ∀ x ∈ xs, Sh k x) : Sh (k + 1) (.list xs) := ⟨by rw [PyData.canLay0]; exact canAll fun x hx => (h x hx).lay, by rw [PyData.depth]; exact Nat.succ_le_succ (deepAll fun x hx => (h x hx).deep)⟩
theorem sh_tup {k : Nat} {xs : List PyData} (h : ∀ x ∈ xs, Sh k x) : Sh (k + 1) (.tuple xs) := ⟨by rw [PyData.canLay0]; exact canAll fun x hx => (h x hx).lay, by rw [PyData.depth]; exact Nat.succ_le_succ (deepAll fun x hx => (h x hx).deep)⟩
theorem sh_nil {k : Nat} : ∀ x ∈ ([] : List PyData), Sh k x := fun x h => nomatch h
theorem sh_cons {k : Nat} {d : PyData} {ds : List PyData} (h : Sh k d) (t : ∀ x ∈ ds, Sh k x) : ∀ x ∈ d :: ds, Sh k x := fun x hx => by
  rcases List.mem_cons.mp hx with rfl | hx
  · exact h
  · exact t x hx
theorem sh_map {α : Type} {k : Nat} {f : α → PyData} {xs : List α} (h : ∀ x ∈ xs, Sh k (f x)) : ∀ y ∈ xs.map f, Sh k y := fun y hy => by
  obtain ⟨x, hx, rfl⟩ := List.mem_map.mp hy
  exact h x hx
theorem Sh.shaped {k : Nat} {d : PyData} (h : Sh k d) (hk : k ≤ 64 := by decide) : SeqAt.shaped d = true := by
  unfold SeqAt.shaped
  rw [h.lay, decide_eq_true (Nat.le_trans h.deep hk)]; rfl
theorem Sh.refl {k : Nat} {d : PyData} (h : Sh k d) : PyData.eqv d d = true := SeqAt.eqv_refl d h.lay
/-- what repr shows -/
structure Sm (k w : Nat) (d : PyData) : Prop where
  sh : Sh k d
  wt : d.weight ≤ w
  short : d.intsShort 13 = true
  show_ : d.showable = true
theorem sm_int {k : Nat} {i : Int} (h : i.natAbs < 10 ^ 12) : Sm k 40 (.int i) := by
  refine ⟨sh_int, ?_, ?_, ?_⟩
  · rw [PyData.weight]
    by_cases z : i = 0
    · rw [if_pos (by simpa using z)]; decide
    · rw [if_neg (by simpa using z)]
      have : i.natAbs.log2 < 40 := (Nat.log2_lt (by omega)).mpr (by omega)
      omega
  · rw [PyData.intsShort]; exact decide_eq_true (PyData.shown_int_le h)
  · rw [PyData.showable]
    refine decide_eq_true ?_
    by_cases z : i.natAbs = 0
    · rw [z]; decide
    · exact (Nat.log2_lt z).mpr (Nat.lt_trans h (Nat.lt_of_lt_of_le (show 10 ^ 12 < 2 ^ 40 by decide) (Nat.pow_le_pow_right (by decide) (by decide))))
theorem shortAll {xs : List PyData} (h : ∀ x ∈ xs, x.intsShort 13 = true) : PyData.intsShortAll 13 xs = true := by
  induction xs with
  | nil => rfl
  | cons x xs ih =>
    rw [PyData.intsShortAll, h x (List.mem_cons_self ..), ih fun y hy => h y (List.mem_cons_of_mem _ hy)]; rfl
theorem showAll {xs : List PyData} (h : ∀ x ∈ xs, x.showable = true) : PyData.showableAll xs = true := by
  induction xs with
  | nil => rfl
  | cons x xs ih =>
    rw [PyData.showableAll, h x (List.mem_cons_self ..), ih fun y hy => h y (List.mem_cons_of_mem _ hy)]; rfl
theorem wtAll {w : Nat} {xs : List PyData} (h : ∀ x ∈ xs, x.weight ≤ w) : PyData.weightAll xs ≤ xs.length * (w + 1) := by
  induction xs with
  | nil => exact Nat.zero_le _
  | cons x xs ih =>
    rw [PyData.weightAll, List.length_cons, Nat.succ_mul]
    have := h x (List.mem_cons_self ..)
    have := ih fun y hy => h y (List.mem_cons_of_mem _ hy)
    omega
theorem sm_list {k w W : Nat} {xs : List PyData} (h : ∀ x ∈ xs, Sm k w x) (hw : xs.length * (w + 1) ≤ W) : Sm (k + 1) W (.list xs) :=
  ⟨sh_list fun x hx => (h x hx).sh, by rw [PyData.weight]; exact Nat.le_trans (wtAll fun x hx => (h x hx).wt) hw, by rw [PyData.intsShort]; exact shortAll fun x hx => (h x hx).short, by rw [PyData.showable]; exact showAll fun x hx => (h x hx).show_⟩
theorem sm_tup {k w W : Nat} {xs : List PyData} (h : ∀ x ∈ xs, Sm k w x) (hw : xs.length * (w + 1) ≤ W) : Sm (k + 1) W (.tuple xs) :=
  ⟨sh_tup fun x hx => (h x hx).sh, by rw [PyData.weight]; exact Nat.le_trans (wtAll fun x hx => (h x hx).wt) hw, by rw [PyData.intsShort]; exact shortAll fun x hx => (h x hx).short, by rw [PyData.showable]; exact showAll fun x hx => (h x hx).show_⟩
theorem Sm.mono {k w k' w' : Nat} {d : PyData} (h : Sm k w d) (hk : k ≤ k') (hw : w ≤ w') : Sm k' w' d := ⟨⟨h.sh.lay, Nat.le_trans h.sh.deep hk⟩, Nat.le_trans h.wt hw, h.short, h.show_⟩
theorem sm_nil {k w : Nat} : ∀ x ∈ ([] : List PyData), Sm k w x := fun x h => nomatch h
theorem sm_cons {k w : Nat} {d : PyData} {ds : List PyData} (h : Sm k w d) (t : ∀ x ∈ ds, Sm k w x) : ∀ x ∈ d :: ds, Sm k w x := fun x hx => by
  rcases List.mem_cons.mp hx with rfl | hx
  · exact h
  · exact t x hx
theorem sm_map {α : Type} {k w : Nat} {f : α → PyData} {xs : List α} (h : ∀ x ∈ xs, Sm k w (f x)) : ∀ y ∈ xs.map f, Sm k w y := fun y hy => by
  obtain ⟨x, hx, rfl⟩ := List.mem_map.mp hy
  exact h x hx
theorem Sm.len {k w : Nat} {d : PyData} (h : Sm k w d) (hk : k ≤ 60) (hw : w ≤ 2 ^ 20) : d.shown.length ≤ sizeLine := by
  refine Nat.le_trans (shown_le13 ?_ h.short) (by decide)
  unfold PyData.layable0
  rw [h.sh.lay, decide_eq_true (Nat.le_trans h.sh.deep (Nat.le_trans hk (by decide))), decide_eq_true (Nat.le_trans h.wt hw)]; rfl
/-- repr of such data -/
theorem cl_repr {k w : Nat} {xs : List PyData} (h : Sm k w (.tuple xs)) (hk : k ≤ 60 := by decide) (hw : w ≤ 2 ^ 20 := by decide) : Cl cRepr [pu (dat (.tuple xs))] (dat (.str (PyData.shown (.tuple xs)))) := fun G H L vs Q l r q => by
  cases r with
  | cons h1 t =>
    cases t
    have h1 : Dq G _ (.tuple xs) := h1
    cases h1 with
    | @tup a ys _ hv d =>
      exact ⟨a, .tuple xs, rfl, dp_up l.same (Dq.tup hv d), h.show_, PyData.hasDict_of_canLay _ h.sh.lay, Nat.le_trans h.sh.deep hk, h.len hk hw, q _ (Dq.str _)⟩
end Z

set_option Elab.async false
set_option linter.all false
set_option maxRecDepth 100000
set_option maxHeartbeats 2000000
/-! Zn: the script. -/
namespace Z
open PySem PySem.Spec PyProof.Rows L2
section
variable {K : PySem.W.Frag} {ρ : List Sl} {te : TE}
theorem sqL_up {H H' : Hp} {a : Addr} {xs : List V} (e : Same H H') (h : SqL K H a xs) : SqL K H' a xs := by
  rcases h with (h | ⟨o, h⟩) | h
  · exact .inl (.inl (e _ _ h))
  · exact .inl (.inr ⟨o, e _ _ h⟩)
  · exact .inr h
/-- the script: whole numbers, wherever they stand -/
def scR (K : PySem.W.Frag) (xs : List Int) : Rp := ⟨fun G v => ∃ a, v = .ref a ∧ SqL K G a (xs.map V.int), fun e h => by
  obtain ⟨a, r, q⟩ := h
  exact ⟨a, r, sqL_up e q⟩⟩
theorem cl_lenS {xs : List Int} : Cl (cLen K) [pu (scR K xs)] (dI xs.length) := fun G H L vs Q l r q => by
  cases r with
  | cons h t =>
    cases t
    obtain ⟨a, rfl, hv⟩ := h
    refine ⟨a, _, rfl, .inl (sqL_up l.same hv), q _ ?_⟩
    rw [List.length_map]
    exact Dq.int _
theorem atI_V {α : Type} {en : α → V} {xs : List α} {i : Int} {x : α} (h0 : 0 ≤ i) (h : xs[i.toNat]? = some x) : atI (xs.map en) i = some (en x) := by
  obtain ⟨hl, rfl⟩ := List.getElem?_eq_some_iff.mp h
  unfold atI ixN
  rw [if_pos h0, if_pos (by rw [List.length_map]; omega)]
  show (xs.map en)[i.toNat]? = _
  rw [List.getElem?_map, h]
  rfl
theorem o_ixS {xs : List Int} {i x : Int} (h0 : 0 ≤ i) (h : xs[i.toNat]? = some x) : Op2 (rIxL K) (pu (scR K xs)) (pu (dI i)) (dI x) := fun G H L v y Q l hx hy q => by
  obtain ⟨a, rfl, hv⟩ := hx
  cases hy
  exact ⟨a, _, i, _, rfl, rfl, sqL_up l.same hv, atI_V h0 h, q _ (Dq.int _)⟩
theorem ev_sS {xs : List Int} (h : Ev te ρ (pu (scR K xs))) : EvS K te ρ (xs.map .int) := ⟨fun Q s q => h.atp s fun G' H' v e s' r => by
  obtain ⟨a, rfl, hv⟩ := r
  exact q G' H' a _ e s' (fun G'' L'' H'' e2 l => sqL_up l.same (sqL_up e2 hv)) (dpAll_of_ints xs)⟩
end
theorem o_eqS {a b : Str} : Op2 rEq (pu (dat (.str a))) (pu (dat (.str b))) (dB (decide (a = b))) := fun G H L x y Q _ hx hy q => by
  cases hx; cases hy
  refine ⟨rfl, q _ ?_⟩
  have e : decide (V.str a = V.str b) = decide (a = b) := by rw [Bool.eq_iff_iff]; simp
  rw [e]
  exact Dq.bl _
theorem o_neS {a b : Str} : Op2 rNe (pu (dat (.str a))) (pu (dat (.str b))) (dB (!decide (a = b))) := fun G H L x y Q _ hx hy q => by
  cases hx; cases hy
  refine ⟨rfl, q _ ?_⟩
  have e : decide (V.str a = V.str b) = decide (a = b) := by rw [Bool.eq_iff_iff]; simp
  rw [e]
  exact Dq.bl _
/-- an error of the class at C is what «except S» names -/
theorem exm_of {K : PySem.W.Frag} {C S : Addr} (h1 : PySem.W.subIn K (.ref S) (.type "BaseException") = some true) (h2 : PySem.W.isClsIn K S = true) (h3 : PySem.W.typeIn K (.ref S) = some (.type "type")) (h4 : PySem.W.subIn K (.ref C) (.ref S) = some true) :
    PySem.W.exmOne K (.ref C) (.ref S) = some true := by
  have e1 : (PySem.W.subIn K (.ref S) (.type "BaseException") == some true) = true := by rw [h1] <;> rfl
  have e2 : ((PySem.W.clsIn K S).isSome && PySem.W.typeIn K (.ref S) == some (.type "type")) = true := by
    have h2' : (PySem.W.clsIn K S).isSome = true := h2
    rw [h2', h3] <;> rfl
  show (if (PySem.W.subIn K (.ref S) (.type "BaseException") == some true) = true then (if ((PySem.W.clsIn K S).isSome && PySem.W.typeIn K (.ref S) == some (.type "type")) = true then PySem.W.subIn K (.ref C) (.ref S) else none) else none) = some true
  rw [if_pos e1, if_pos e2]
  exact h4
theorem room64 {k : Nat} {A : Around} (r : Room k A) : A.units + 64 < cLine := by have := r.un; omega
theorem room70 {k : Nat} {A : Around} (r : Room k A) : A.units + 70 < cLine := by have := r.un; omega
end Z

set_option Elab.async false
set_option linter.all false
set_option maxRecDepth 100000
set_option maxHeartbeats 2000000
/-! Zo: statements that end in some of several ways; loops by an invariant. -/
namespace Z
open PySem PySem.Spec PyProof.Rows L2
structure ExS (W : WX) (ts : TS) (ρ : List Sl) (S : Out → Prop) : Prop where
  run : ∀ {G : Hp} {σ : L2.St} {L0 : List Cell} {H : Hp} (D : Ends), Stt G ρ σ L0 H → (∀ o, S o → Post W D G L0 o) → ts D σ H
section
variable {K : PySem.W.Frag} {W : WX} {ρ ρ' ρ1 : List Sl} {te ta tb : TE} {t u : TS} {tr : TA} {R : Rp} {B : Bw} {o : Out} {i : Nat} {S S' S1 : Out → Prop}
theorem ExS.of (h : Ex W t ρ o) (k : S o) : ExS W t ρ S := ⟨fun D s q => h.run D s (q o k)⟩
theorem ExS.ex (h : ExS W t ρ (fun o' => o' = o)) : Ex W t ρ o := ⟨fun D s q => h.run D s fun o' e => by rw [e]; exact q⟩
theorem ExS.imp (h : ExS W t ρ S) (k : ∀ o, S o → S' o) : ExS W t ρ S' := ⟨fun D s q => h.run D s fun o p => q o (k o p)⟩
theorem ExS.seq (h : Ex W t ρ (.nx ρ1)) (k : ExS W u ρ1 S) : ExS W (tSeq t u) ρ S := ⟨fun D s q => h.run { D with nx := u D } s fun G' σ' H' e s' => k.run D s' fun o p => (q o p).mono e⟩
theorem Post.seqE {D : Ends} {G : Hp} {L0 : List Cell} {N : L2.St → Hp → Prop} (k : o.ends = true) (q : Post W D G L0 o) : Post W { D with nx := N } G L0 o := by
  cases o with
  | nx _ => cases k
  | go _ => cases k
  | bk _ => exact q
  | ct _ => exact q
  | rt _ => exact q
  | ro _ => exact q
  | xc _ _ _ => exact q
theorem ExS.seqS (h : ExS W t ρ S1) (k : ∀ o, S1 o → (∃ ρ1, o = .nx ρ1 ∧ ExS W u ρ1 S) ∨ (o.ends = true ∧ S o)) : ExS W (tSeq t u) ρ S := ⟨fun D s q => h.run { D with nx := u D } s fun o p => by
  rcases k o p with ⟨ρ1, rfl, h2⟩ | ⟨he, hs⟩
  · exact fun G' σ' H' e s' => h2.run D s' fun o p => (q o p).mono e
  · exact (q o hs).seqE he⟩
theorem ExS.seqX (h : Ex W t ρ o) (k : o.ends = true) (hs : S o) : ExS W (tSeq t u) ρ S := ExS.of (h.seqE k) hs
theorem ExS.ife {tc : TT} {b : Bool} (hc : EvT tc ρ b) (h1 : b = true → ExS W t ρ S) (h2 : b = false → ExS W u ρ S) : ExS W (tIfS tc t u) ρ S := ⟨fun D s q => hc.run _ s fun G1 H1 e1 s1 => by
  cases b with
  | true => exact (h1 rfl).run D s1 fun o p => (q o p).mono e1
  | false => exact (h2 rfl).run D s1 fun o p => (q o p).mono e1⟩
theorem ExS.ite {v : TS} {tc : TT} {b : Bool} (hc : EvT tc ρ b) (h1 : b = true → ExS W (tSeq t v) ρ S) (h2 : b = false → ExS W (tSeq u v) ρ S) : ExS W (tSeq (tIfS tc t u) v) ρ S := ⟨fun D s q => hc.run _ s fun G1 H1 e1 s1 => by
  cases b with
  | true => exact (h1 rfl).run D s1 fun o p => (q o p).mono e1
  | false => exact (h2 rfl).run D s1 fun o p => (q o p).mono e1⟩
theorem ExS.skip (h : ExS W u ρ S) : ExS W (tSeq tNext u) ρ S := ExS.seq Ex.next h
theorem ExS.from_ {ρ'} (e : ρ' = ρ) (h : ExS W t ρ' S) : ExS W t ρ S := by rw [← e]; exact h
theorem ExS.weak (w : Wk ρ ρ') (h : ExS W t ρ' S) : ExS W t ρ S := ⟨fun D s q => by
  obtain ⟨G2, e2, s2⟩ := s.weak w
  exact h.run D s2 fun o p => (q o p).mono e2⟩
theorem ExS.freeze {ds : List PyData} (i : Nat) (hi : ρ[i]? = some (.o (oL ds))) (h : ExS W t (ρ.set i (.p (dat (.list ds)))) S) : ExS W t ρ S := ⟨fun {G σ L0 H} D s q => by
  obtain ⟨a, cs, e, ⟨vs, hcs, d⟩, hh, k1, k2⟩ := s.get_o hi
  subst hcs
  obtain ⟨G2, e2, s2⟩ := k2 (dat (.list ds)) fun G' e' hc => Dq.lst (hc (a, .lst vs) (List.mem_cons_self ..)) (dpAll_up e' d)
  exact h.run D s2 fun o p => (q o p).mono e2⟩
theorem ExS.open_ {α : Type} {P : α → Prop} {F : α → Rp} (i : Nat) (hi : ρ[i]? = some (.p (exR P F))) (h : ∀ x, P x → ExS W t (ρ.set i (.p (F x))) S) : ExS W t ρ S := ⟨fun D s q => by
  obtain ⟨L, sl, la⟩ := s
  obtain ⟨x, p, sl'⟩ := sl.open_ hi
  exact (h x p).run D ⟨L, sl', la⟩ q⟩
/-- told less exactly -/
theorem Ex.rtW {R' : Rp} (h : Ex W t ρ (.rt R)) (k : ∀ G v, R.p G v → R'.p G v) : Ex W t ρ (.rt R') := ⟨fun D s q => h.run D s fun G' ρ' σ' H' v e s' r => q G' ρ' σ' H' v e s' (k _ _ r)⟩
theorem Ex.roW {O O' : Op} (h : Ex W t ρ (.ro O)) (k : ∀ G a cs, O.p G a cs → O'.p G a cs) : Ex W t ρ (.ro O') := ⟨fun D s q => h.run D s fun G' H' a cs e l r => q G' H' a cs e l (k _ _ _ r)⟩
/-! ### owned things of which some is told -/
def exO {α : Type} (P : α → Prop) (F : α → Op) : Op := ⟨fun G a cs => ∃ x, P x ∧ (F x).p G a cs, fun e h => by
  obtain ⟨x, p, q⟩ := h
  exact ⟨x, p, (F x).up e q⟩⟩
/-! ### loops -/
theorem ExS.forI {α Sx : Type} {wi : TI} {g : TG} {tb : TS} {xs : List α} {en : α → PyData} (E : Sx → List Sl) (I : List α → Sx → Prop) {s0 : Sx} (hi : EvI K wi ρ (xs.map en)) (h0 : Wk ρ (E s0)) (i0 : I [] s0)
    (hb : ∀ pre x post s, xs = pre ++ x :: post → I pre s → ∃ T ρ1, EvG g T (E s) (dat (en x)) ρ1 ∧ ExS W tb ρ1 (fun o => (∃ s', I (pre ++ [x]) s' ∧ o = .go (E s')) ∨ (o.leaves = true ∧ S (unbk o))))
    (hf : ∀ s, I xs s → S (.nx (E s))) : ExS W (tFor wi g tb) ρ S := ⟨fun {G σ L0 H} D s q => hi.run _ s fun G1 H1 J e1 s1 gv => by
  obtain ⟨G2, e2, s2⟩ := s1.weak h0
  refine ⟨fun i m σ H => m = xs.length - i ∧ i ≤ xs.length ∧ ∃ s G', I (xs.take i) s ∧ Same G2 G' ∧ Stt G' (E s) σ L0 H, ⟨xs.length, by simp, Nat.zero_le _, s0, G2, i0, Same.refl _, s2⟩, ?_⟩
  rintro i m σ' H' ⟨rfl, hi, s', G', hr, e3, s3⟩
  obtain ⟨L3, sl3, la3⟩ := id s3
  have e13 : Same G1 G' := e2.trans e3
  by_cases hlt : i < xs.length
  · right
    have hx : xs[i]? = some xs[i] := List.getElem?_eq_getElem hlt
    have hsplit : xs = xs.take i ++ xs[i] :: xs.drop (i + 1) := by
      rw [List.getElem_cons_drop, List.take_append_drop]
    have htk : xs.take (i + 1) = xs.take i ++ [xs[i]] := by rw [List.take_add_one, hx]; rfl
    obtain ⟨T, ρ1, hg, hbody⟩ := hb _ _ _ s' hsplit hr
    obtain ⟨g1, g2⟩ := gv.go i G' L3 H' e13 la3 (by simpa using hlt)
    refine ⟨g1, fun σ'' H'' => ∃ s G', I (xs.take (i + 1)) s ∧ Same G2 G' ∧ Stt G' (E s) σ'' L0 H'', fun σ'' H'' ⟨s, G'', a, b, c⟩ => ⟨xs.length - (i + 1), by omega, rfl, hlt, s, G'', a, b, c⟩, fun x H4 y => ?_⟩
    obtain ⟨G4, e4, l4, d4⟩ := g2 x H4 y
    have d4 : Dq G4 x (en xs[i]) := by simpa using d4
    have s4 : Stt G4 (E s') σ' L0 H4 := ⟨L3, sl3.up e4, l4 _ la3⟩
    refine hg.run x _ s4 d4 fun G5 σ5 H5 e5 s5 _ => ?_
    have e25 : Same G2 G5 := (e3.trans e4).trans e5
    refine hbody.run _ s5 fun o ho => ?_
    rcases ho with ⟨s6, i6, rfl⟩ | ⟨hl, hs⟩
    · have k : ∀ G6 σ6 H6, Same G5 G6 → Stt G6 (E s6) σ6 L0 H6 → ∃ s G', I (xs.take (i + 1)) s ∧ Same G2 G' ∧ Stt G' (E s) σ6 L0 H6 := fun G6 σ6 H6 e6 st => ⟨s6, G6, by rw [htk]; exact i6, e25.trans e6, st⟩
      exact ⟨k, k⟩
    · have q := (q _ hs).mono (e1.trans (e2.trans e25))
      cases o with
      | nx _ => cases hl
      | go _ => cases hl
      | ct _ => cases hl
      | bk _ => exact q
      | rt _ => exact q
      | ro _ => exact q
      | xc _ _ _ => exact q
  · left
    have e : i = xs.length := by omega
    subst e
    rw [List.take_length] at hr
    exact ⟨gv.stop _ G' L3 H' e13 la3 (by simp), q _ (hf s' hr) G' σ' H' (e1.trans e13) s3⟩⟩
theorem ExS.whileI {Sx : Type} {tc : TT} {tb : TS} (E : Sx → List Sl) (I : Sx → Prop) (μ : Sx → Nat) (b : Sx → Bool) {s0 : Sx} (h0 : Wk ρ (E s0)) (i0 : I s0)
    (ht : ∀ s, I s → EvT tc (E s) (b s))
    (hb : ∀ s, I s → b s = true → ExS W tb (E s) (fun o => (∃ s', I s' ∧ μ s' < μ s ∧ o = .go (E s')) ∨ (o.leaves = true ∧ S (unbk o))))
    (hf : ∀ s, I s → b s = false → S (.nx (E s))) : ExS W (tWhile tc tb) ρ S := ⟨fun {G σ L0 H} D s q => by
  obtain ⟨G2, e2, s2⟩ := s.weak h0
  refine ⟨fun m σ H => ∃ s G', I s ∧ μ s = m ∧ Same G2 G' ∧ Stt G' (E s) σ L0 H, ⟨_, s0, G2, i0, rfl, Same.refl _, s2⟩, ?_⟩
  rintro m σ' H' ⟨s', G', hi, rfl, e3, s3⟩
  refine (ht s' hi).run _ s3 fun G5 H5 e5 s5 => ?_
  have e25 : Same G2 G5 := e3.trans e5
  cases hbb : b s' with
  | true =>
    rw [if_pos rfl]
    refine ⟨fun σ'' H'' => ∃ s G', I s ∧ μ s < μ s' ∧ Same G2 G' ∧ Stt G' (E s) σ'' L0 H'', fun σ'' H'' ⟨s, G'', a, b, c, d⟩ => ⟨μ s, b, s, G'', a, rfl, c, d⟩, ?_⟩
    refine (hb s' hi hbb).run _ s5 fun o ho => ?_
    rcases ho with ⟨s6, i6, m6, rfl⟩ | ⟨hl, hs⟩
    · have k : ∀ G6 σ6 H6, Same G5 G6 → Stt G6 (E s6) σ6 L0 H6 → ∃ s G', I s ∧ μ s < μ s' ∧ Same G2 G' ∧ Stt G' (E s) σ6 L0 H6 := fun G6 σ6 H6 e6 st => ⟨s6, G6, i6, m6, e25.trans e6, st⟩
      exact ⟨k, k⟩
    · have q := (q _ hs).mono (e2.trans e25)
      cases o with
      | nx _ => cases hl
      | go _ => cases hl
      | ct _ => cases hl
      | bk _ => exact q
      | rt _ => exact q
      | ro _ => exact q
      | xc _ _ _ => exact q
  | false =>
    rw [if_neg (by decide)]
    exact q _ (hf s' hi hbb) G5 _ H5 (e2.trans e25) s5⟩
end
end Z

set_option Elab.async false
set_option linter.all false
set_option maxRecDepth 100000
set_option maxHeartbeats 2000000
/-! Zp: texts. -/
namespace Z
open PySem PySem.Spec PyProof.Rows L2
section
variable {K : PySem.W.Frag} {W : WX} {ρ ρ' : List Sl} {te ta tb to : TE} {R : Rp} {B : Bw} {i j : Nat}
def dS (x : Str) : Rp := dat (.str x)
abbrev rAddS : R2 := fun x y H Q => ∃ i j, x = .str i ∧ y = .str j ∧ i.length + j.length ≤ sizeLine ∧ Q (.str (i ++ j)) H
theorem o_addS {a b : Str} (h : a.length + b.length ≤ sizeLine) : Op2 rAddS (pu (dat (.str a))) (pu (dat (.str b))) (dat (.str (a ++ b))) := fun G H L x y Q _ hx hy q => by
  cases hx; cases hy
  exact ⟨a, b, rfl, rfl, h, q _ (Dq.str _)⟩
abbrev cStrI : List V → Hp → VK → Prop := fun xs H Q => ∃ i, xs = [.int i] ∧ i.natAbs.log2 < 1920 ∧ Q (.str (toString i)) H
theorem cl_strI {n : Int} (h : n.natAbs.log2 < 1920) : Cl cStrI [pu (dI n)] (dat (.str (Str.ofString (toString n)))) := fun G H L vs Q l r q => by
  cases r with
  | cons h1 t =>
    cases t; cases h1
    exact ⟨n, rfl, h, q _ (Dq.str _)⟩
abbrev cIntS : List V → Hp → VK → Prop := fun xs H Q => ∃ a n, xs = [.str a] ∧ PySem.intText? a = some n ∧ a.length ≤ 640 ∧ Q (.int n) H
theorem cl_intS {a : Str} {n : Int} (h : PySem.intText? a = some n) (hl : a.length ≤ 640) : Cl cIntS [pu (dat (.str a))] (dI n) := fun G H L vs Q l r q => by
  cases r with
  | cons h1 t =>
    cases t; cases h1
    exact ⟨a, n, rfl, h, hl, q _ (Dq.int _)⟩
abbrev cLenS : List V → Hp → VK → Prop := fun xs H Q => ∃ z, xs = [.str z] ∧ z.length ≤ sizeLine ∧ Q (.int z.length) H
theorem cl_lenStr {a : Str} (hl : a.length ≤ sizeLine) : Cl cLenS [pu (dat (.str a))] (dI a.length) := fun G H L vs Q l r q => by
  cases r with
  | cons h1 t =>
    cases t; cases h1
    exact ⟨a, rfl, hl, q _ (Dq.int _)⟩
abbrev rJoin (K : PySem.W.Frag) : V → List V → Hp → VK → Prop := fun x xs H Q => ∃ a p, ∃ ys : List Str, x = .str a ∧ xs = [.ref p] ∧ (SqL K H p (ys.map V.str) ∨ SqT K H p (ys.map V.str)) ∧ (ys.map (·.length)).sum + ys.length * a.length ≤ 16777216 ∧ Q (.str (Txt.join a ys)) H
abbrev rSplit : V → List V → Hp → VK → Prop := fun x xs H Q => ∃ a b, x = .str a ∧ xs = [.str b] ∧ (b.length == 0) = false ∧ a.length + 2 ≤ sizeLine ∧ rNewStrs (Txt.split a b) H Q
theorem dqAll_strs {G : Hp} : ∀ {vs : List V} {ys : List Str}, DqAll G vs (ys.map PyData.str) → vs = ys.map V.str
  | _, [], h => by cases h; rfl
  | _, y :: ys, h => by
    cases h with
    | cons h1 h2 =>
      cases h1
      rw [dqAll_strs h2]; rfl
theorem dqAll_of_strs {G : Hp} : ∀ (ys : List Str), DqAll G (ys.map V.str) (ys.map PyData.str)
  | [] => .nil
  | y :: ys => .cons (.str y) (dqAll_of_strs ys)
theorem ev_join {a : Str} {ys : List Str} (h : Ev to ρ (pu (dat (.str a)))) (h1 : Ev te ρ (bL (ys.map .str))) (hz : (ys.map (·.length)).sum + ys.length * a.length ≤ 16777216) : Ev (tM1 (rJoin K) to te) ρ (pu (dat (.str (Txt.join a ys)))) := Ev.pure fun Q s q => h.atp s fun G1 H1 v e1 s1 r1 => by
  cases r1
  refine ⟨⟨a, rfl⟩, h1.run _ s1 fun G2 H2 y e2 s2 r2 => ?_⟩
  obtain ⟨L, sl, la⟩ := id s2
  obtain ⟨p, vs, rfl, hv, d⟩ := bl_sq la (r2 G2 L H2 (Same.refl _) sl la)
  have e := dqAll_strs d
  subst e
  exact ⟨a, p, ys, rfl, rfl, .inl (.inl (.inl hv)), hz, q _ _ _ (e1.trans e2) s2 (Dq.str _)⟩
theorem en_split {a b : Str} (h : Ev to ρ (pu (dat (.str a)))) (h1 : Ev te ρ (pu (dat (.str b)))) (hb : (b.length == 0) = false) (hz : a.length + 2 ≤ sizeLine) : EvN (tM1 rSplit to te) ρ ((Txt.split a b).map .str) := ⟨fun Q s q => h.atp s fun G1 H1 v e1 s1 r1 => by
  cases r1
  refine ⟨⟨a, rfl⟩, h1.atp s1 fun G2 H2 y e2 s2 r2 => ?_⟩
  cases r2
  exact ⟨a, b, rfl, rfl, hb, hz, fun p hp => q G2 H2 p _ (e1.trans e2) s2 hp (dqAll_of_strs _)⟩⟩
abbrev rIs0 (f : Str → Bool) : V → List V → Hp → VK → Prop := fun x xs H Q => ∃ a, x = .str a ∧ xs = [] ∧ True ∧ Q (.bl (f a)) H
theorem ev_is0 {f : Str → Bool} {a : Str} (h : Ev to ρ (pu (dat (.str a)))) : Ev (tM0 (rIs0 f) to) ρ (pu (dB (f a))) := Ev.pure fun Q s q => h.atp s fun G1 H1 v e1 s1 r1 => by
  cases r1
  exact ⟨⟨a, rfl⟩, a, rfl, rfl, trivial, q _ _ _ e1 s1 (Dq.bl _)⟩
theorem o_ixStr {z : Str} {n : Int} {c : Nat} (hz : z.length ≤ sizeLine) (h : atI z.cps.toList n = some c) : Op2 rIxS (pu (dat (.str z))) (pu (dI n)) (dat (.str ⟨#[c]⟩)) := fun G H L x y Q _ hx hy q => by
  cases hx; cases hy
  exact ⟨z, n, c, rfl, rfl, hz, h, q _ (Dq.str _)⟩
theorem ev_slS {tl th : TO} {z : Str} {lo hi : Option Int} (h : Ev te ρ (pu (dat (.str z)))) (h1 : EvO tl ρ lo) (h2 : EvO th ρ hi) (hz : z.length ≤ sizeLine) : Ev (tSl rSlS te tl th) ρ (pu (dat (.str (cutS z lo hi)))) := Ev.pure fun Q s q =>
  h.atp s fun G1 H1 v e1 s1 r => h1.run _ s1 fun G2 H2 e2 s2 => h2.run _ s2 fun G3 H3 e3 s3 => by
    cases r
    exact ⟨z, rfl, hz, q _ _ _ ((e1.trans e2).trans e3) s3 (Dq.str _)⟩
theorem o_inS {c : Nat} {z : Str} : Op2 rInS (pu (dat (.str ⟨#[c]⟩))) (pu (dat (.str z))) (dB (decide (c ∈ z.cps.toList))) := fun G H L x y Q _ hx hy q => by
  cases hx; cases hy
  exact ⟨c, z, rfl, rfl, q _ (Dq.bl _)⟩
/-- a walk over a text's signs -/
theorem ei_str {z : Str} (h : Ev te ρ (pu (dat (.str z)))) : EvI K (iStr te) ρ (z.cps.toList.map fun c => .str ⟨#[c]⟩) := ⟨fun Q s q => h.atp s fun G' H' v e s' r => by
  cases r
  refine ⟨z, rfl, q G' H' (Its z) e s' ⟨fun i G L H e2 l hi => ⟨(show i < z.cps.size by simpa using hi), fun x H2 y => ?_⟩, fun i G L H e2 l hi => by show z.cps.size ≤ i; simpa using hi⟩⟩
  obtain ⟨rfl, c, hc, rfl⟩ := y
  refine ⟨G, Same.refl _, fun L l => l, ?_⟩
  have hi' : i < z.cps.size := by simpa using hi
  rw [Array.getElem?_eq_getElem hi'] at hc
  cases hc
  rw [List.getElem_map]
  simp only [Array.getElem_toList]
  exact Dq.str _⟩
/-! ### f-texts -/
inductive EvJ (ρ : List Sl) : List TE → List Str → Prop
  | nil : EvJ ρ [] []
  | cons {t : TE} {ts : List TE} {y : Str} {ys : List Str} (h : Ev t ρ (pu (dat (.str y)))) (r : EvJ ρ ts ys) : EvJ ρ (t :: ts) (y :: ys)
def gluS : Str → List Str → Str
  | acc, [] => acc
  | acc, y :: ys => gluS (acc ++ y) ys
theorem len_app (a b : Str) : (a ++ b).length = a.length + b.length := by
  show (a.cps ++ b.cps).size = a.cps.size + b.cps.size
  exact Array.size_append
theorem evJ_run {ts : List TE} {ys : List Str} (h : EvJ ρ ts ys) : ∀ (acc : Str) {G : Hp} {σ : L2.St} {L0 : List Cell} {H : Hp} (Q : Str → Hp → Prop), Stt G ρ σ L0 H → acc.length + (ys.map (·.length)).sum ≤ sizeLine → (∀ G' H', Same G G' → Stt G' ρ σ L0 H' → Q (gluS acc ys) H') → tJs ts acc σ H Q := by
  induction h with
  | nil => exact fun acc G σ L0 H Q s _ q => q G H (Same.refl _) s
  | @cons t ts y ys h1 _ ih =>
    intro acc G σ L0 H Q s hz q
    refine h1.atp s fun G1 H1 v e1 s1 r1 => ?_
    cases r1
    rw [List.map_cons, List.sum_cons] at hz
    have hl : (acc ++ y).length = acc.length + y.length := len_app acc y
    exact ⟨y, rfl, by omega, ih (acc ++ y) Q s1 (by omega) fun G' H' e' s' => q G' H' (e1.trans e') s'⟩
theorem ev_joined {ts : List TE} {ys : List Str} (h : EvJ ρ ts ys) (hz : (ys.map (·.length)).sum ≤ sizeLine) : Ev (fun σ H Q => tJs ts Str.empty σ H fun out H1 => Q (.str out) H1) ρ (pu (dat (.str (gluS Str.empty ys)))) := Ev.pure fun Q s q =>
  evJ_run h Str.empty _ s (by show 0 + _ ≤ _; omega) fun G' H' e s' => q _ _ _ e s' (Dq.str _)
theorem ev_fmtI {n : Int} (h : Ev te ρ (pu (dI n))) (hn : n.natAbs.log2 < 1920) : Ev (tFmt te) ρ (pu (dat (.str (Str.ofString (toString n))))) := Ev.pure fun Q s q => h.atp s fun G1 H1 v e1 s1 r1 => by
  cases r1
  exact .inr ⟨n, rfl, hn, q _ _ _ e1 s1 (Dq.str _)⟩
/-- x = l.pop(), l an owned list -/
theorem Ex.pop {ds : List PyData} {d : PyData} {T : String} (hi : ρ[i]? = some (.o (oL (ds ++ [d])))) (hT : T = "list") : Ex W (tAsg (tBM0 K T rPop (tVar i)) (gName j)) ρ (.nx ((ρ.set i (.o (oL ds))).set j (.p (dat d)))) := ⟨fun {G σ L0 H} D s q => by
  obtain ⟨a, cs, e, ⟨vs, hcs, hd⟩, hh, k1, _⟩ := s.get_o hi
  subst hcs
  refine ⟨_, e, .inl ⟨hT, vs, .inl (.inl (hh _ (List.mem_cons_self ..)))⟩, ?_⟩
  have hlen := dpAll_len hd
  rw [List.length_append] at hlen
  have hlen : vs.length = ds.length + 1 := hlen
  obtain ⟨y, hy, dy⟩ := dpAll_get (i := ds.length) hd (by rw [List.getElem?_append_right (Nat.le_refl _), Nat.sub_self]; rfl)
  refine ⟨a, vs, y, rfl, rfl, hh _ (List.mem_cons_self ..), by rw [hlen]; exact hy, ?_⟩
  have hd2 : DqAll G vs.dropLast ds := by
    have := dpAll_take ds.length hd
    rw [List.take_left] at this
    rw [List.dropLast_eq_take, hlen]
    exact this
  have s2 := k1 (oL ds) [(a, .lst vs.dropLast)] _ ⟨_, rfl, hd2⟩ fun M l => l.store
  obtain ⟨G2, e2, s3⟩ := s2.set_p (R := dat d) (v := y) dy j
  exact q _ _ _ e2 s3⟩
/-- tuple(l) -/
abbrev cTupOf (K : PySem.W.Frag) : List V → Hp → VK → Prop := fun xs H Q => ∃ p ys, xs = [.ref p] ∧ ((SqL K H p ys ∧ ∀ l, H l = none → Q (.ref l) (upd H l (.tup ys))) ∨ (SqT K H p ys ∧ Q (.ref p) H))
theorem ev_tupOf {ds : List PyData} (h : Ev te ρ (bL ds)) : Ev (tCB (cTupOf K) (tCons te tNil)) ρ (pu (dat (.tuple ds))) := Ev.pure fun Q s q => h.run _ s fun G1 H1 v e1 s1 r => by
  obtain ⟨L, sl, la⟩ := id s1
  obtain ⟨p, vs, rfl, hv, d⟩ := bl_sq la (r G1 L H1 (Same.refl _) sl la)
  refine ⟨p, vs, rfl, .inl ⟨.inl (.inl hv), fun l hl => ?_⟩⟩
  have g := s1.grow (o := .tup vs) hl
  exact q _ _ _ (e1.trans g.1) g.2 (Dq.tup upd_same (dpAll_up g.1 d))
/-- l.count(b), l a list of bools -/
def rCntB : V → List V → Hp → VK → Prop := fun x xs H Q => ∃ (p : Addr) (ns : List Bool) (k : Bool), x = .ref p ∧ xs = [.bl k] ∧ H p = some (.lst (ns.map V.bl)) ∧ Q (.int (countIn (.bool k) (ns.map PyData.bool))) H
theorem vals_bools {hp : Heap} : ∀ {ns : List Bool} {us : List Value}, Vals (ns.map V.bl) us → ∃ as, ReadsAll hp us (ns.map PyData.bool) as
  | [], _, r => by cases r; exact ⟨_, .nil⟩
  | n :: ns, _, r => by
    cases r with
    | cons r1 r2 =>
      cases r1
      obtain ⟨as, h⟩ := vals_bools (hp := hp) r2
      exact ⟨_, .cons (.bool n) h⟩
theorem mt_countB {X : Cx} : MtR X "list.count" rCntB := by
  intro pins s σ H x xs v us Q I rx rxs h
  obtain ⟨p, ns, k, rfl, rfl, hs, q⟩ := h
  cases rx
  obtain ⟨u, rfl, ru⟩ := rxs.one
  cases ru
  obtain ⟨z, its, n, r, hl, e⟩ := I.lstM hs
  obtain ⟨as, ra⟩ := vals_bools (hp := s.heap) r
  refine count_list_bools (l := p) (vs := its) ⟨_, e, rfl, _, rfl⟩ ra ?_ ?_
  · rw [List.all_eq_true]
    intro d hd
    obtain ⟨b, _, rfl⟩ := List.mem_map.mp hd
    rfl
  · exact ⟨.int _, H, I.tok _, ⟨_, rfl⟩, q⟩
theorem ev_cntB {ns : List Bool} {k : Bool} (h : Ev to ρ (bL (ns.map .bool))) : Ev (tBM K "list" rCntB to (tCons (tC (.bl k)) tNil)) ρ (pu (dI (countIn (.bool k) (ns.map PyData.bool)))) := Ev.pure fun Q s q => h.run _ s fun G1 H1 v e1 s1 r => by
  obtain ⟨L, sl, la⟩ := id s1
  obtain ⟨p, vs, rfl, hv, d⟩ := bl_sq la (r G1 L H1 (Same.refl _) sl la)
  have e := dpAll_bools d
  subst e
  exact ⟨.inl ⟨rfl, _, .inl (.inl hv)⟩, p, ns, k, rfl, rfl, hv, q _ _ _ e1 s1 (Dq.int _)⟩
theorem ev_idxB {ns : List Bool} {k : Bool} {j : Nat} (h : Ev to ρ (bL (ns.map .bool))) (hj : ns[j]? = some k) (hm : ∀ m b, m < j → ns[m]? = some b → b ≠ k) : Ev (tBM K "list" (rIndex K) to (tCons (tC (.bl k)) tNil)) ρ (pu (dI (j : Nat))) := Ev.pure fun Q s q => h.run _ s fun G1 H1 v e1 s1 r => by
  obtain ⟨L, sl, la⟩ := id s1
  obtain ⟨p, vs, rfl, hv, d⟩ := bl_sq la (r G1 L H1 (Same.refl _) sl la)
  have e := dpAll_bools d
  subst e
  refine ⟨.inl ⟨rfl, _, .inl (.inl hv)⟩, p, ns.map V.bl, .bl k, j, .bl k, rfl, rfl, .inl (.inl hv), rfl, ?_, by rw [List.getElem?_map, hj]; rfl, by cases k <;> rfl, fun m z hz e => ?_, q _ _ _ e1 s1 (Dq.int _)⟩
  · rw [List.all_eq_true]
    intro z hz
    obtain ⟨b, _, rfl⟩ := List.mem_map.mp hz
    rfl
  · rw [List.getElem?_map] at e
    cases hb : ns[m]? with
    | none => rw [hb] at e; cases e
    | some b =>
      rw [hb] at e
      have e : V.bl b = z := Option.some.inj e
      have hne := hm m b hz hb
      rw [← e]
      cases b <;> cases k <;> first | rfl | exact absurd rfl hne
/-- isinstance(x, T), x a number or a text -/
theorem cl_isS {x : Str} : Cl (rIsi K) [pu (dat (.str x)), pu ⟨fun _ v => v = .ty "str", fun _ h => h⟩] (dB true) := fun G H L vs Q l r q => by
  cases r with
  | cons h1 t =>
    cases t with
    | cons h2 t =>
      cases t; cases h1; cases h2
      exact ⟨_, _, .type "str", .type "str", true, rfl, .ty "str", .base (.str x), kit_ty rfl, q _ (Dq.bl _)⟩
theorem cl_isI {n : Int} : Cl (rIsi K) [pu (dI n), pu ⟨fun _ v => v = .ty "str", fun _ h => h⟩] (dB false) := fun G H L vs Q l r q => by
  cases r with
  | cons h1 t =>
    cases t with
    | cons h2 t =>
      cases t; cases h1; cases h2
      exact ⟨_, _, .type "int", .type "str", false, rfl, .ty "str", .base (.int n), kit_ty (by decide), q _ (Dq.bl _)⟩
theorem kcall_isi (K : PySem.W.Frag) {X : Cx} (h : X.K = K := by rfl) : CallR X (.builtin "isinstance") (rIsi K) := by subst h; exact call_isi
theorem kcall_tuple (K : PySem.W.Frag) {X : Cx} (h : X.K = K := by rfl) : CallR X (.type "tuple") (cTupOf K) := by subst h; exact call_tuple_of
theorem kmt_index (K : PySem.W.Frag) {X : Cx} (h : X.K = K := by rfl) : MtR X "list.index" (rIndex K) := by subst h; exact mt_index
theorem kpe_join (K : PySem.W.Frag) {X : Cx} {o e : Expr} {to te : TE} {apos pos : Pos} (ho : PE X o to) (he : PE X e te) (hs : starEach [e] X.env = [(false, eval e X.env)] := by rfl) (hbase : attributeBase o "join" X.env (eval o X.env) = eval o X.env := by rfl) (hline : (apos.endLine == pos.line) = true := by rfl) (h : X.K = K := by rfl) :
    PE X (.Call (.Attribute o "join" apos) [e] [] pos) (tM1 (rJoin K) to te) := by subst h; exact pe_join ho he hs hbase hline
/-- text * n -/
abbrev rMulS : R2 := fun x y H Q => ∃ a n, x = .str a ∧ y = .int n ∧ MulOk a n ∧ Q (.str (Txt.mul a n)) H
theorem op_mulS {X : Cx} : OpR X (binaryOp .Mult) rMulS := by
  intro pins s σ H x y v u Q I rx ry h
  obtain ⟨a, n, rfl, rfl, hok, q⟩ := h
  obtain ⟨t, rfl⟩ := rx
  obtain ⟨t', rfl⟩ := ry
  exact SB.mul hok fun t' k => ⟨.str (Txt.mul a n), H, I.tok _, ⟨_, rfl⟩, q⟩
theorem o_mulS {a : Str} {n : Int} (h : MulOk a n) : Op2 rMulS (pu (dat (.str a))) (pu (dI n)) (dat (.str (Txt.mul a n))) := fun G H L x y Q _ hx hy q => by
  cases hx; cases hy
  exact ⟨a, n, rfl, rfl, h, q _ (Dq.str _)⟩
end
end Z

set_option Elab.async false
set_option linter.all false
set_option maxRecDepth 100000
set_option maxHeartbeats 2000000
/-! Zq: lists taken apart, a list's truth, None in a list. -/
namespace Z
open PySem PySem.Spec PyProof.Rows L2
section
variable {K : PySem.W.Frag} {W : WX} {ρ ρ' : List Sl} {te ta tb to : TE} {R : Rp} {B : Bw} {i j : Nat}
theorem kpg_lst (K : PySem.W.Frag) {X : Cx} {es : List Expr} {k n : Nat} {t : TGs} {pos : Pos} (hc : X.calm = true) (hp : PGs X es t) (hn : (assignEach es X.env).length = n := by rfl) (hst : (assignEach es X.env).findIdx? (·.1) = none := by rfl) (h : X.K = K := by rfl) : PG X (.Tuple es k pos) (gLst K n t) := by
  subst h; exact pg_lst hc hp hn hst
theorem eg_lst {n : Nat} {gs : TGs} {T : List Nat} {ds : List PyData} (h : EvGs gs T ρ ds ρ') (hn : ds.length = n) : EvG (gLst K n gs) T ρ (dat (.list ds)) ρ' := ⟨fun v Q s r q => by
  have r : Dq _ v (.list ds) := r
  cases r with
  | lst a b => exact ⟨_, _, rfl, .inl (.inl (s.same _ _ a)), by rw [dpAll_len b]; exact hn, h.run _ Q s b q⟩⟩
abbrev tTruth (K : PySem.W.Frag) (te : TE) : TT := fun σ H Q => te σ H fun x H' => ∃ k, TruV K x H' k ∧ Q k H'
theorem et_truthL {ds : List PyData} (h : Ev te ρ (bL ds)) : EvT (tTruth K te) ρ (!ds.isEmpty) := ⟨fun Q s q => h.run _ s fun G1 H1 v e1 s1 r => by
  obtain ⟨L, sl, la⟩ := id s1
  obtain ⟨p, vs, rfl, hv, d⟩ := bl_sq la (r G1 L H1 (Same.refl _) sl la)
  refine ⟨!ds.isEmpty, .inl ⟨vs, .inl (.inl hv), ?_⟩, q _ _ e1 s1⟩
  cases d <;> rfl⟩
def oD : Option Int → PyData
  | none => .none
  | some n => .int n
theorem o_inNone {os : List (Option Int)} : Op2 (rIn K false) (pu (dat .none)) (bL (os.map oD)) (dB (os.any Option.isNone)) := fun G H L x y Q l hx hy q => by
  cases hx
  obtain ⟨p, vs, rfl, hv, d⟩ := bl_sq l hy
  have key : ∀ {vs : List V} {os : List (Option Int)}, DqAll G vs (os.map oD) → vs.all flatV = true ∧ inV .non vs = os.any Option.isNone := by
    intro vs os
    induction os generalizing vs with
    | nil => intro r; cases r; exact ⟨rfl, rfl⟩
    | cons o os ih =>
      intro r
      cases r with
      | cons r1 r2 =>
        have i2 := ih r2
        cases o with
        | none =>
          cases r1
          exact ⟨by rw [List.all_cons, i2.1, Bool.and_true]; rfl, rfl⟩
        | some n =>
          cases r1
          refine ⟨by rw [List.all_cons, i2.1, Bool.and_true]; rfl, ?_⟩
          show inV .non (V.int n :: _) = (false || os.any Option.isNone)
          rw [← i2.2]
          unfold inV
          rw [List.any_cons]
          rfl
  have k := key d
  exact ⟨p, vs, rfl, .inl (.inl (.inl hv)), rfl, k.1, by rw [if_neg (by decide), k.2]; exact q _ (Dq.bl _)⟩
theorem kpe_bm (K : PySem.W.Frag) {X : Cx} {o e : Expr} {es : List Expr} {to : TE} {t : TA} {name : Str} {apos cpos : Pos} {T id : String} {r : V → List V → Hp → VK → Prop} (pa : PlainAttrs T) (slot : Slot T name id) (hty : typeOf (.builtin id) = pure (.type "method_descriptor")) (hm : MtR X id r) (ho : PE X o to) (ha : PA X (e :: es) t)
    (h1 : attributeBase o name X.env (eval o X.env) = eval o X.env := by rfl) (h2 : ((backTo cpos (starEach (e :: es) X.env)).all (fun x => !x.1) && (backToKw cpos (keywordEach [] X.env)).all (fun x => x.1.isSome) && decide ((e :: es).length + ([] : List Keyword).length + (if ([] : List Keyword).isEmpty then 0 else 1) < 30)) = true := by rfl) (h3 : (apos.endLine == cpos.line) = true := by rfl)
    (h4 : starEach (e :: es) X.env = (false, eval e X.env) :: starEach es X.env := by rfl) (h5 : (backTo cpos (starEach es X.env)).any (·.1) = false := by rfl) (h : X.K = K := by rfl) : PE X (.Call (.Attribute o name apos) (e :: es) [] cpos) (tBM K T r to t) := by
  subst h; exact pe_bm pa slot hty hm ho ha h1 h2 h3 h4 h5
theorem ex_opL {C : Addr} {n : Int} {r : R2} (h : EvX W ta ρ C n) : EvX W (tOp r ta tb) ρ C n := ⟨fun Q s q => h.run _ s q⟩
theorem Ex.appendX {C : Addr} {n : Int} {ds : List PyData} {T : String} (hi : ρ[i]? = some (.o (oL ds))) (he : EvX W te ρ C n) (hT : T = "list") : Ex W (tDrop (tBM K T rAppend (tVar i) (tCons te tNil))) ρ (.xc ρ C n) := ⟨fun {G σ L0 H} D s q => by
  obtain ⟨a, cs, e, ⟨vs, hcs, hd⟩, hh, _⟩ := s.get_o hi
  subst hcs
  exact ⟨_, e, .inl ⟨hT, vs, .inl (.inl (hh _ (List.mem_cons_self ..)))⟩, he.run _ s fun G' H' d e s' hd => q G' _ H' d e s' hd⟩⟩
end
end Z

set_option Elab.async false
set_option linter.all false
set_option maxRecDepth 100000
set_option maxHeartbeats 2000000
/-! R: a text of the program as an object that carries its term, what it comes to as a plain function, and the proof. -/
namespace R
open PySem PySem.Spec PyProof.Rows L2 Z
/-- a value: data, the script, an instance whose fields are data -/
inductive Vl where
  | d (x : PyData) | s (xs : List Int) | i (C : Addr) (fs : List (Str × PyData))
abbrev Vl.int (n : Int) : Vl := .d (.int n)
abbrev Vl.bool (b : Bool) : Vl := .d (.bool b)
inductive Rs (α : Type) where
  | ok (a : α) | ex (C : Addr) (n : Int) | no
def Rs.bind {α β : Type} : Rs α → (α → Rs β) → Rs β
  | .ok a, f => f a
  | .ex C n, _ => .ex C n
  | .no, _ => .no
def Rs.of {α : Type} : Option α → Rs α
  | some a => .ok a
  | none => .no
inductive Av where
  | v (a : Vl) | l (ds : List PyData)
inductive Sv where
  | x | v (a : Vl) | bl (ds : List PyData) | ol (ds : List PyData) | er (a d : Addr) (n : Int) | oi (C a : Addr) (fs : List (Str × PyData))
section
variable (K : PySem.W.Frag)
def vr : Vl → Rp
  | .d x => dat x
  | .s xs => scR K xs
  | .i C fs => insR C (fs.map fun p => (p.1, dat p.2))
def bw : Av → Bw
  | .v a => pu (vr K a)
  | .l ds => bL ds
def sl : Sv → Sl
  | .x => .x
  | .v a => .p (vr K a)
  | .bl ds => .b (bL ds)
  | .ol ds => .o (oL ds)
  | .er a d n => .p (errR a d n)
  | .oi C a fs => .o (oI C a (fs.map fun p => (p.1, dat p.2)))
def sls (st : List Sv) : List Sl := st.map (sl K)
end
/-- where a text stands: E of the function, in a try, where nothing may be raised -/
inductive Md where
  | out (E : XK) | tr (W : WX) | qu
def Md.fits : Md → WX → Prop
  | .out E, W => W = WofE E
  | .tr W', W => W = W'
  | .qu, _ => True
def Md.loud : Md → Bool
  | .qu => false
  | _ => true
def EvXg {β : Type} (W : WX) (t : L2.St → Hp → β → Prop) (ρ : List Sl) (C : Addr) (n : Int) : Prop :=
  ∀ {G : Hp} {σ : L2.St} {L0 : List Cell} {H : Hp} (Q : β), Stt G ρ σ L0 H → (∀ G' H' d, Same G G' → Stt G' ρ σ L0 H' → H' d = none → W (.ref C) (some d) σ (upd H' d (atF n))) → t σ H Q
/-- what a text comes to: P where it is a value -/
def Cm {α β : Type} (md : Md) (t : L2.St → Hp → β → Prop) (ρ : List Sl) (P : α → Prop) : Rs α → Prop
  | .ok a => P a
  | .ex C n => md.loud = true → ∀ W, md.fits W → EvXg W t ρ C n
  | .no => True
structure XE (K : PySem.W.Frag) where
  te : Md → TE
  ev : List Sv → Rs Vl
  el : List Sv → Option (List PyData)
  es : List Sv → Option (List PyData)
  ok : ∀ md st, Cm md (te md) (sls K st) (fun a => Ev (te md) (sls K st) (pu (vr K a))) (ev st)
  okl : ∀ md st ds, el st = some ds → Ev (te md) (sls K st) (bL ds)
  oks : ∀ md st ds, es st = some ds → EvS K (te md) (sls K st) ds
structure XN (K : PySem.W.Frag) where
  te : Md → TE
  ev : List Sv → Rs (List PyData)
  ok : ∀ md st, Cm md (te md) (sls K st) (fun ds => EvN (te md) (sls K st) ds) (ev st)
structure XT (K : PySem.W.Frag) where
  tt : Md → TT
  ev : List Sv → Rs Bool
  ok : ∀ md st, Cm md (tt md) (sls K st) (fun b => EvT (tt md) (sls K st) b) (ev st)
structure XA (K : PySem.W.Frag) where
  ta : Md → TA
  ev : List Sv → Rs (List Av)
  ok : ∀ md st, Cm md (ta md) (sls K st) (fun as => EvA (ta md) (sls K st) (as.map (bw K))) (ev st)
structure XO (K : PySem.W.Frag) where
  to : Md → TO
  ev : List Sv → Rs (Option Int)
  ok : ∀ md st, Cm md (to md) (sls K st) (fun k => EvO (to md) (sls K st) k) (ev st)
structure XI (K : PySem.W.Frag) where
  ti : Md → TI
  ev : List Sv → Rs (List PyData)
  ok : ∀ md st, Cm md (ti md) (sls K st) (fun ds => EvI K (ti md) (sls K st) ds) (ev st)
def agree (T : List Nat) (st st' : List Sv) : Prop := st'.length = st.length ∧ ∀ j, j ∉ T → st'[j]? = st[j]?
structure XG (K : PySem.W.Frag) where
  tg : TG
  T : List Nat
  ev : PyData → List Sv → Option (List Sv)
  ok : ∀ d st st', ev d st = some st' → EvG tg T (sls K st) (dat d) (sls K st') ∧ agree T st st'
structure XGs (K : PySem.W.Frag) where
  tg : TGs
  n : Nat
  T : List Nat
  ev : List PyData → List Sv → Option (List Sv)
  ok : ∀ ds st st', ev ds st = some st' → EvGs tg T (sls K st) ds (sls K st') ∧ agree T st st' ∧ ds.length = n
section
variable {K : PySem.W.Frag}
def asL : Vl → Option (List PyData)
  | .d (.list ds) => some ds
  | _ => none
def asS : Vl → Option (List PyData)
  | .d (.list ds) => some ds
  | .s xs => some (xs.map .int)
  | _ => none
def okV {α : Type} : Rs α → Option α
  | .ok a => some a
  | _ => none
theorem okV_some {α : Type} {r : Rs α} {a : α} (h : okV r = some a) : r = .ok a := by
  cases r with
  | ok b => cases h; rfl
  | ex _ _ => cases h
  | no => cases h
theorem asL_ev {md : Md} {te : TE} {ρ : List Sl} {a : Vl} {ds : List PyData} (h : asL a = some ds) (e : Ev te ρ (pu (vr K a))) : Ev te ρ (bL ds) := by
  cases a with
  | s _ => cases h
  | i _ _ => cases h
  | d x =>
    cases x with
    | list es => cases h; exact Ev.bl e
    | _ => cases h
theorem asS_ev {te : TE} {ρ : List Sl} {a : Vl} {ds : List PyData} (h : asS a = some ds) (e : Ev te ρ (pu (vr K a))) : EvS K te ρ ds := by
  cases a with
  | s _ => cases h; exact ev_sS e
  | i _ _ => cases h
  | d x =>
    cases x with
    | list es => cases h; exact Ev.s e
    | _ => cases h
/-- a text whose value is data in any case -/
def XE.of (te : Md → TE) (ev : List Sv → Rs Vl) (ok : ∀ md st, Cm md (te md) (sls K st) (fun a => Ev (te md) (sls K st) (pu (vr K a))) (ev st)) : XE K where
  te := te
  ev := ev
  el := fun st => (okV (ev st)).bind asL
  es := fun st => (okV (ev st)).bind asS
  ok := ok
  okl := fun md st ds h => by
    obtain ⟨a, h1, h2⟩ := Option.bind_eq_some_iff.mp h
    have := ok md st
    rw [okV_some h1] at this
    exact asL_ev (K := K) (md := md) h2 this
  oks := fun md st ds h => by
    obtain ⟨a, h1, h2⟩ := Option.bind_eq_some_iff.mp h
    have := ok md st
    rw [okV_some h1] at this
    exact asS_ev h2 this
theorem sls_get {st : List Sv} {i : Nat} {s : Sv} (h : st[i]? = some s) : (sls K st)[i]? = some (sl K s) := by
  unfold sls
  rw [List.getElem?_map, h]
  rfl
theorem sls_set {st : List Sv} {i : Nat} {s : Sv} : sls K (st.set i s) = (sls K st).set i (sl K s) := by
  unfold sls
  rw [List.map_set]
theorem sls_len {st : List Sv} : (sls K st).length = st.length := by
  unfold sls
  rw [List.length_map]
def XE.var (i : Nat) : XE K where
  te := fun _ => tVar i
  ev := fun st => match st[i]? with
    | some (.v a) => .ok a
    | _ => .no
  el := fun st => match st[i]? with
    | some (.v a) => asL a
    | some (.bl ds) => some ds
    | some (.ol ds) => some ds
    | _ => none
  es := fun st => match st[i]? with
    | some (.v a) => asS a
    | some (.bl ds) => some ds
    | _ => none
  ok := fun md st => by
    cases h : st[i]? with
    | none => trivial
    | some s =>
      cases s with
      | v a => exact ev_var (sls_get (K := K) h)
      | _ => trivial
  okl := fun md st ds => by
    cases h : st[i]? with
    | none => intro z; cases z
    | some s =>
      cases s with
      | v a => exact fun z => asL_ev (K := K) (md := md) z (ev_var (sls_get (K := K) h))
      | bl es => intro z; cases z; exact ev_b (sls_get (K := K) h)
      | ol es => intro z; cases z; exact ev_o (sls_get (K := K) h)
      | _ => intro z; cases z
  oks := fun md st ds => by
    cases h : st[i]? with
    | none => intro z; cases z
    | some s =>
      cases s with
      | v a => exact fun z => asS_ev z (ev_var (sls_get (K := K) h))
      | bl es => intro z; cases z; exact es_b (sls_get (K := K) h)
      | _ => intro z; cases z
def XE.int (n : Int) : XE K := .of (fun _ => tC (.int n)) (fun _ => .ok (.d (.int n))) fun _ _ => ev_int
def XE.bool (b : Bool) : XE K := .of (fun _ => tC (.bl b)) (fun _ => .ok (.d (.bool b))) fun _ _ => ev_bl
def XE.non : XE K := .of (fun _ => tC .non) (fun _ => .ok (.d .none)) fun _ _ => ev_non
def XE.str (s : Str) : XE K := .of (fun _ => tC (.str s)) (fun _ => .ok (.d (.str s))) fun _ _ => ev_str
/-- an argument, as it is read: k where a list may be lent -/
def XE.av (k : Bool) (e : XE K) (st : List Sv) : Rs Av :=
  match k with
  | true => match e.el st with
    | some ds => .ok (.l ds)
    | none => match e.ev st with
      | .ex C n => .ex C n
      | _ => .no
  | false => (e.ev st).bind fun a => .ok (.v a)
theorem XE.av_ok (k : Bool) (e : XE K) (md : Md) (st : List Sv) : Cm md (e.te md) (sls K st) (fun x => Ev (e.te md) (sls K st) (bw K x)) (e.av k st) := by
  unfold XE.av
  have h := e.ok md st
  cases k with
  | false =>
    cases he : e.ev st with
    | ok a => rw [he] at h; exact h
    | ex C n => rw [he] at h; exact h
    | no => trivial
  | true =>
    cases hl : e.el st with
    | some ds => exact e.okl md st ds hl
    | none =>
      cases he : e.ev st with
      | ok a => trivial
      | ex C n => rw [he] at h; exact h
      | no => trivial
theorem Cm.bind {α α' β β' : Type} {md : Md} {t : L2.St → Hp → β → Prop} {t' : L2.St → Hp → β' → Prop} {ρ : List Sl} {P : α → Prop} {P' : α' → Prop} {r : Rs α} {f : α → Rs α'} (h : Cm md t ρ P r)
    (hx : ∀ C n W, EvXg W t ρ C n → EvXg W t' ρ C n) (hk : ∀ a, P a → Cm md t' ρ P' (f a)) : Cm md t' ρ P' (r.bind f) := by
  cases r with
  | ok a => exact hk a h
  | ex C n => exact fun l W w => hx C n W (h l W w)
  | no => trivial
theorem Cm.imp {α β : Type} {md : Md} {t : L2.St → Hp → β → Prop} {ρ : List Sl} {P P' : α → Prop} {r : Rs α} (h : Cm md t ρ P r) (k : ∀ a, P a → P' a) : Cm md t ρ P' r := by
  cases r with
  | ok a => exact k a h
  | ex C n => exact h
  | no => trivial
/-! operators -/
structure O2 (K : PySem.W.Frag) where
  r : R2
  ka : Bool
  kb : Bool
  f : Av → Av → Option Vl
  ok : ∀ x y z, f x y = some z → Op2 r (bw K x) (bw K y) (vr K z)
def XE.op (o : O2 K) (a b : XE K) : XE K := .of (fun md => tOp o.r (a.te md) (b.te md))
  (fun st => (a.av o.ka st).bind fun x => (b.av o.kb st).bind fun y => Rs.of (o.f x y))
  fun md st => (a.av_ok o.ka md st).bind (fun C n W h => fun Q s q => h _ s q) fun x hx =>
    (b.av_ok o.kb md st).bind (fun C n W h => fun {G σ L0 H} Q s q => hx.run _ s fun G1 H1 v e1 s1 _ => h _ s1 fun G2 H2 d e2 s2 hd => q G2 H2 d (e1.trans e2) s2 hd) fun y hy => by
      cases hf : o.f x y with
      | none => trivial
      | some z => exact ev_op hx hy (o.ok x y z hf)
structure O2N (K : PySem.W.Frag) where
  r : R2
  ka : Bool
  kb : Bool
  f : Av → Av → Option (List PyData)
  ok : ∀ x y z, f x y = some z → Op2N r (bw K x) (bw K y) z
def XN.op (o : O2N K) (a b : XE K) : XN K where
  te := fun md => tOp o.r (a.te md) (b.te md)
  ev := fun st => (a.av o.ka st).bind fun x => (b.av o.kb st).bind fun y => Rs.of (o.f x y)
  ok := fun md st => (a.av_ok o.ka md st).bind (fun C n W h => fun Q s q => h _ s q) fun x hx =>
    (b.av_ok o.kb md st).bind (fun C n W h => fun {G σ L0 H} Q s q => hx.run _ s fun G1 H1 v e1 s1 _ => h _ s1 fun G2 H2 d e2 s2 hd => q G2 H2 d (e1.trans e2) s2 hd) fun y hy => by
      cases hf : o.f x y with
      | none => trivial
      | some z => exact ev_opN hx hy (o.ok x y z hf)
/-- a new list as a value -/
def XN.e (a : XN K) : XE K := .of a.te (fun st => (a.ev st).bind fun ds => .ok (.d (.list ds))) fun md st => (a.ok md st).bind (fun _ _ _ h => h) fun ds h => EvN.ev h
def XE.neg (a : XE K) : XE K := .of (fun md => tUn (rU fun i => .int (-i)) (a.te md))
  (fun st => (a.ev st).bind fun x => match x with
    | .d (.int i) => .ok (.d (.int (-i)))
    | _ => .no)
  fun md st => (a.ok md st).bind (fun C n W h => fun Q s q => h _ s q) fun x hx => by
    cases x with
    | s _ => trivial
    | i _ _ => trivial
    | d x =>
      cases x with
      | int i => exact ev_neg hx
      | _ => trivial
def bOf : Vl → Option Bool
  | .d (.bool b) => some b
  | _ => none
theorem bOf_some {x : Vl} {b : Bool} (h : bOf x = some b) : x = .d (.bool b) := by
  cases x with
  | s _ => cases h
  | i _ _ => cases h
  | d x =>
    cases x with
    | bool c => cases h; rfl
    | _ => cases h
/-- the truth of a text that is a bool -/
def XE.bv (e : XE K) (st : List Sv) : Rs Bool := (e.ev st).bind fun x => Rs.of (bOf x)
theorem XE.bv_ok (e : XE K) (md : Md) (st : List Sv) : Cm md (e.te md) (sls K st) (fun b => Ev (e.te md) (sls K st) (pu (dB b))) (e.bv st) :=
  (e.ok md st).bind (fun _ _ _ h => h) fun x hx => by
    cases h : bOf x with
    | none => trivial
    | some b => rw [bOf_some h] at hx; exact hx
def XE.andV (a b : XE K) : XE K := .of (fun md => tAndV (a.te md) (b.te md))
  (fun st => (a.bv st).bind fun x => match x with
    | true => (b.bv st).bind fun y => .ok (.d (.bool y))
    | false => .ok (.d (.bool false)))
  fun md st => (a.bv_ok md st).bind (fun C n W h => fun Q s q => h _ s q) fun x hx => by
    cases x with
    | false => exact ev_andV (b := false) hx (fun z => nomatch z)
    | true =>
      refine (b.bv_ok md st).bind (fun C n W h => fun {G σ L0 H} Q s q => hx.atp s fun G1 H1 v e1 s1 r => ?_) fun y hy => ev_andV hx fun _ => hy
      cases r
      exact ⟨true, rfl, by rw [if_pos rfl]; exact h _ s1 fun G2 H2 d e2 s2 hd => q G2 H2 d (e1.trans e2) s2 hd⟩
def XE.orV (a b : XE K) : XE K := .of (fun md => tOrV (a.te md) (b.te md))
  (fun st => (a.bv st).bind fun x => match x with
    | false => (b.bv st).bind fun y => .ok (.d (.bool y))
    | true => .ok (.d (.bool true)))
  fun md st => (a.bv_ok md st).bind (fun C n W h => fun Q s q => h _ s q) fun x hx => by
    cases x with
    | true => exact ev_orV (b := true) hx (fun z => nomatch z)
    | false =>
      refine (b.bv_ok md st).bind (fun C n W h => fun {G σ L0 H} Q s q => hx.atp s fun G1 H1 v e1 s1 r => ?_) fun y hy => ev_orV hx fun _ => hy
      cases r
      exact ⟨false, rfl, by rw [if_neg (by decide)]; exact h _ s1 fun G2 H2 d e2 s2 hd => q G2 H2 d (e1.trans e2) s2 hd⟩
def XE.notV (a : XE K) : XE K := .of (fun md => tNotV (a.te md)) (fun st => (a.bv st).bind fun x => .ok (.d (.bool (!x))))
  fun md st => (a.bv_ok md st).bind (fun C n W h => fun Q s q => h _ s q) fun x hx => ev_notV hx
end
end R

set_option Elab.async false
set_option linter.all false
set_option maxRecDepth 100000
set_option maxHeartbeats 2000000
namespace R
open PySem PySem.Spec PyProof.Rows L2 Z
section
variable {K : PySem.W.Frag}
theorem tt_x {te : TE} {tt : TT} {ρ : List Sl} {C : Addr} {n : Int} {W : WX} (k : ∀ σ H Q, (te σ H fun _ _ => False) → tt σ H Q) (h : EvXg W te ρ C n) : EvXg W tt ρ C n := fun Q s q => k _ _ _ (h _ s q)
def XT.test (e : XE K) : XT K where
  tt := fun md => tTest (e.te md)
  ev := fun st => e.bv st
  ok := fun md st => by
    have h := e.bv_ok md st
    cases he : e.bv st with
    | ok b => rw [he] at h; exact et_test h
    | ex C n => rw [he] at h; exact fun l W w => fun Q s q => h l W w _ s q
    | no => trivial
def XT.B (e : XE K) : XT K where
  tt := fun md => tB (e.te md)
  ev := fun st => e.bv st
  ok := fun md st => by
    have h := e.bv_ok md st
    cases he : e.bv st with
    | ok b => rw [he] at h; exact et_B h
    | ex C n => rw [he] at h; exact fun l W w => fun Q s q => h l W w _ s q
    | no => trivial
def XT.and (a b : XT K) : XT K where
  tt := fun md => tAnd (a.tt md) (b.tt md)
  ev := fun st => (a.ev st).bind fun x => match x with
    | true => b.ev st
    | false => .ok false
  ok := fun md st => (a.ok md st).bind (fun C n W h => fun Q s q => h _ s q) fun x hx => by
    cases x with
    | false => exact et_and (b := false) hx (fun z => nomatch z)
    | true =>
      have hb := b.ok md st
      show Cm md _ _ _ (b.ev st)
      cases he : b.ev st with
      | ok y => rw [he] at hb; exact et_and hx fun _ => hb
      | ex C n =>
        rw [he] at hb
        exact fun l W w => fun {G σ L0 H} Q s q => hx.run _ s fun G1 H1 e1 s1 => by
          rw [if_pos rfl]
          exact hb l W w _ s1 fun G2 H2 d e2 s2 hd => q G2 H2 d (e1.trans e2) s2 hd
      | no => trivial
def XT.or (a b : XT K) : XT K where
  tt := fun md => tOr (a.tt md) (b.tt md)
  ev := fun st => (a.ev st).bind fun x => match x with
    | false => b.ev st
    | true => .ok true
  ok := fun md st => (a.ok md st).bind (fun C n W h => fun Q s q => h _ s q) fun x hx => by
    cases x with
    | true => exact et_or (b := true) hx (fun z => nomatch z)
    | false =>
      have hb := b.ok md st
      show Cm md _ _ _ (b.ev st)
      cases he : b.ev st with
      | ok y => rw [he] at hb; exact et_or hx fun _ => hb
      | ex C n =>
        rw [he] at hb
        exact fun l W w => fun {G σ L0 H} Q s q => hx.run _ s fun G1 H1 e1 s1 => by
          rw [if_neg (by decide)]
          exact hb l W w _ s1 fun G2 H2 d e2 s2 hd => q G2 H2 d (e1.trans e2) s2 hd
      | no => trivial
def XT.not (a : XT K) : XT K where
  tt := fun md => tNot (a.tt md)
  ev := fun st => (a.ev st).bind fun x => .ok (!x)
  ok := fun md st => (a.ok md st).bind (fun C n W h => fun Q s q => h _ s q) fun x hx => et_not hx
def XT.truthL (e : XE K) : XT K where
  tt := fun md => tTruth K (e.te md)
  ev := fun st => Rs.of ((e.el st).map fun ds => !ds.isEmpty)
  ok := fun md st => by
    cases h : e.el st with
    | none => trivial
    | some ds => exact et_truthL (e.okl md st ds h)
def XT.yes : XT K where
  tt := fun _ => tYes
  ev := fun _ => .ok true
  ok := fun md st => ⟨fun Q s q => q _ _ (Same.refl _) s⟩
def XE.ife (t : XT K) (a b : XE K) : XE K := .of (fun md => tIf (t.tt md) (a.te md) (b.te md))
  (fun st => (t.ev st).bind fun x => match x with
    | true => a.ev st
    | false => b.ev st)
  fun md st => (t.ok md st).bind (fun C n W h => fun Q s q => h _ s q) fun x hx => by
    cases x with
    | true =>
      have ha := a.ok md st
      show Cm md _ _ _ (a.ev st)
      cases he : a.ev st with
      | ok y => rw [he] at ha; exact ev_if hx (fun _ => ha) (fun z => nomatch z)
      | ex C n =>
        rw [he] at ha
        exact fun l W w => fun {G σ L0 H} Q s q => hx.run _ s fun G1 H1 e1 s1 => by
          rw [if_pos rfl]
          exact ha l W w _ s1 fun G2 H2 d e2 s2 hd => q G2 H2 d (e1.trans e2) s2 hd
      | no => trivial
    | false =>
      have hb := b.ok md st
      show Cm md _ _ _ (b.ev st)
      cases he : b.ev st with
      | ok y => rw [he] at hb; exact ev_if hx (fun z => nomatch z) (fun _ => hb)
      | ex C n =>
        rw [he] at hb
        exact fun l W w => fun {G σ L0 H} Q s q => hx.run _ s fun G1 H1 e1 s1 => by
          rw [if_neg (by decide)]
          exact hb l W w _ s1 fun G2 H2 d e2 s2 hd => q G2 H2 d (e1.trans e2) s2 hd
      | no => trivial
def XE.chain (o o' : O2 K) (a b c : XE K) : XE K := .of (fun md => tChain o.r o'.r (a.te md) (b.te md) (c.te md))
  (fun st => (a.av o.ka st).bind fun x => (b.av o.kb st).bind fun y => match (o.f x y).bind bOf with
    | some false => .ok (.d (.bool false))
    | some true => match okV (c.av o'.kb st) with
      | some w => Rs.of (((o'.f y w).bind bOf).map fun k => .d (.bool k))
      | none => .no
    | none => .no)
  fun md st => (a.av_ok o.ka md st).bind (fun C n W h => fun Q s q => h _ s q) fun x hx =>
    (b.av_ok o.kb md st).bind (fun C n W h => fun {G σ L0 H} Q s q => hx.run _ s fun G1 H1 v e1 s1 _ => h _ s1 fun G2 H2 d e2 s2 hd => q G2 H2 d (e1.trans e2) s2 hd) fun y hy => by
      have ho : ∀ k, (o.f x y).bind bOf = some k → Op2 o.r (bw K x) (bw K y) (dB k) := fun k h => by
        obtain ⟨z, h1, h2⟩ := Option.bind_eq_some_iff.mp h
        have := o.ok x y z h1
        rw [bOf_some h2] at this
        exact this
      cases hf : (o.f x y).bind bOf with
      | none => simp only [hf]; trivial
      | some k =>
        cases k with
        | false => simp only [hf]; exact ev_chain (a := false) (b := false) (Bc := pu (dB true)) (r' := o'.r) hx hy (fun z => nomatch z) (ho _ hf) (fun z => nomatch z)
        | true =>
          simp only [hf]
          cases hc : okV (c.av o'.kb st) with
          | none => simp only; trivial
          | some w =>
            have hcv := c.av_ok o'.kb md st
            rw [okV_some hc] at hcv
            simp only
            cases hg : (o'.f y w).bind bOf with
            | none => trivial
            | some k2 =>
              obtain ⟨z, h1, h2⟩ := Option.bind_eq_some_iff.mp hg
              have h3 := o'.ok y w z h1
              rw [bOf_some h2] at h3
              exact ev_chain hx hy (fun _ => hcv) (ho _ hf) (fun _ => h3)
end
end R

set_option Elab.async false
set_option linter.all false
set_option maxRecDepth 100000
set_option maxHeartbeats 2000000
namespace R
open PySem PySem.Spec PyProof.Rows L2 Z
section
variable {K : PySem.W.Frag}
def XA.nil : XA K where
  ta := fun _ => tNil
  ev := fun _ => .ok []
  ok := fun md st => ea_nil
def XA.cons (k : Bool) (e : XE K) (r : XA K) : XA K where
  ta := fun md => tCons (e.te md) (r.ta md)
  ev := fun st => (e.av k st).bind fun x => (r.ev st).bind fun xs => .ok (x :: xs)
  ok := fun md st => (e.av_ok k md st).bind (fun C n W h => fun Q s q => h _ s q) fun x hx =>
    (r.ok md st).bind (fun C n W h => fun {G σ L0 H} Q s q => hx.run _ s fun G1 H1 v e1 s1 _ => h _ s1 fun G2 H2 d e2 s2 hd => q G2 H2 d (e1.trans e2) s2 hd) fun xs hxs => ea_cons hx hxs
/-- arguments that are all data -/
def avD : List Av → Option (List PyData)
  | [] => some []
  | .v (.d x) :: r => (avD r).map (x :: ·)
  | _ => none
theorem avD_bw : ∀ {as : List Av} {ds : List PyData}, avD as = some ds → as.map (bw K) = ds.map fun d => pu (dat d)
  | [], ds, h => by cases h; rfl
  | .v (.d x) :: r, ds, h => by
    obtain ⟨ds', h1, h2⟩ := Option.map_eq_some_iff.mp (show (avD r).map (x :: ·) = some ds from h)
    subst h2
    rw [List.map_cons, List.map_cons, avD_bw h1]
    rfl
  | .v (.s _) :: r, ds, h => by cases h
  | .v (.i _ _) :: r, ds, h => by cases h
  | .l _ :: r, ds, h => by cases h
def XA.dev (as : XA K) (st : List Sv) : Rs (List PyData) := (as.ev st).bind fun xs => match avD xs with
  | some ds => if ds.length ≤ 1000 then .ok ds else .no
  | none => .no
theorem XA.dev_ok (as : XA K) (md : Md) (st : List Sv) : Cm md (as.ta md) (sls K st) (fun ds => EvA (as.ta md) (sls K st) (ds.map fun d => pu (dat d)) ∧ ds.length ≤ 1000) (as.dev st) :=
  (as.ok md st).bind (fun _ _ _ h => h) fun xs hx => by
    cases h : avD xs with
    | none => simp only; trivial
    | some ds =>
      rw [avD_bw h] at hx
      simp only
      split
      · exact ⟨hx, by assumption⟩
      · trivial
def XE.tup (as : XA K) : XE K := .of (fun md => tTup (as.ta md)) (fun st => (as.dev st).bind fun ds => .ok (.d (.tuple ds)))
  fun md st => (as.dev_ok md st).bind (fun C n W h => fun Q s q => h _ s q) fun ds h => ev_tup h.1 h.2
def XN.lst (as : XA K) : XN K where
  te := fun md => tLst (as.ta md)
  ev := fun st => as.dev st
  ok := fun md st => by
    have h := as.dev_ok md st
    cases he : as.dev st with
    | ok ds => rw [he] at h; exact en_lst h.1 h.2
    | ex C n => rw [he] at h; exact fun l W w => fun Q s q => h l W w _ s q
    | no => trivial
structure Bi (K : PySem.W.Frag) where
  r : List V → Hp → VK → Prop
  f : List Av → Option Vl
  ok : ∀ as z, f as = some z → Cl r (as.map (bw K)) (vr K z)
def XE.bi (b : Bi K) (as : XA K) : XE K := .of (fun md => tCB b.r (as.ta md)) (fun st => (as.ev st).bind fun xs => Rs.of (b.f xs))
  fun md st => (as.ok md st).bind (fun C n W h => fun Q s q => h _ s q) fun xs h => by
    cases hf : b.f xs with
    | none => trivial
    | some z => exact ev_cb h (b.ok xs z hf)
structure BiN (K : PySem.W.Frag) where
  r : List V → Hp → VK → Prop
  f : List Av → Option (List PyData)
  ok : ∀ as z, f as = some z → ClN r (as.map (bw K)) z
def XN.bi (b : BiN K) (as : XA K) : XN K where
  te := fun md => tCB b.r (as.ta md)
  ev := fun st => (as.ev st).bind fun xs => Rs.of (b.f xs)
  ok := fun md st => (as.ok md st).bind (fun C n W h => fun Q s q => h _ s q) fun xs h => by
    cases hf : b.f xs with
    | none => trivial
    | some z => exact en_cb h (b.ok xs z hf)
/-! functions of the program -/
structure Fn where
  m : Nat
  own : Bool
  f : List Av → Rs Vl
def resOf (K : PySem.W.Frag) (own : Bool) : Rs Vl → Res
  | .ok a => match own with
    | true => match asL a with
      | some ds => .own (oL ds)
      | none => .ok (vr K a)
    | false => .ok (vr K a)
  | .ex C n => .err C n
  | .no => .ok (dat .none)
def Fn.sp (K : PySem.W.Frag) (F : Fn) : Sp := SpA (α := {xs : List Av // xs.length = F.m}) (fun x => F.f x.1 ≠ .no) (fun x => x.1.map (bw K)) (fun x => resOf K F.own (F.f x.1))
def callT (md : Md) (sp : Sp) (t : TA) : TE := match md with
  | .out E => tCall sp [] E t
  | .tr W => tCallS sp (WE W) t
  | .qu => tCall sp [] (fun _ _ _ => False) t
theorem call_any {sp : Sp} {t : TA} {ρ : List Sl} {md : Md} {R : Rp} (h : ∀ E, Ev (tCall sp [] E t) ρ (pu R)) (h2 : ∀ E, Ev (tCallS sp E t) ρ (pu R)) : Ev (callT md sp t) ρ (pu R) := by
  cases md with
  | out E => exact h E
  | tr W => exact h2 _
  | qu => exact h _
theorem en_callS {α : Type} {pre : α → Prop} {A : α → List Bw} {F : α → Res} {tr : TA} {ρ : List Sl} {ds : List PyData} {E : L2.St → XK} (x : α) (ha : EvA tr ρ (A x)) (hp : pre x) (hR : F x = .own (oL ds)) : EvN (tCallS (SpA pre A F) E tr) ρ ds := ⟨fun {G σ L0 H} Q s q => ha.at s fun G1 H1 vs L e1 sl la r => by
  refine ⟨x, G1, L ++ L0, hp, la, r, ?_⟩
  rw [hR]
  intro G2 H2 a2 cs e2 l2 ro
  obtain ⟨ws, hcs, d⟩ := ro
  subst hcs
  obtain ⟨H3, hn3, rfl, l3⟩ := Lay.uncell l2
  exact q G2 H3 _ ws (e1.trans e2) ⟨L, sl.up e2, l3⟩ hn3 d⟩
theorem call_args (F : Fn) (as : XA K) (md : Md) (ρ : List Sl) (xs : List Av) (hm : xs.length = F.m) (h : EvA (as.ta md) ρ (xs.map (bw K))) : Cm md (callT md (F.sp K) (as.ta md)) ρ (fun a => match F.own with
    | true => ∃ ds, a = .d (.list ds) ∧ EvN (callT md (F.sp K) (as.ta md)) ρ ds
    | false => Ev (callT md (F.sp K) (as.ta md)) ρ (pu (vr K a))) (match F.f xs, F.own with
    | .ok a, true => (match asL a with
      | some ds => .ok a
      | none => .no)
    | r, _ => r) := by
  cases hf : F.f xs with
  | no => simp only; trivial
  | ex C n =>
    simp only
    intro l W w
    have hR : resOf K F.own (F.f xs) = .err C n := by rw [hf]; rfl
    cases md with
    | qu => cases l
    | out E =>
      subst w
      exact fun {G σ L0 H} Q s q => (ex_call (α := {xs : List Av // xs.length = F.m}) (A := fun x => x.1.map (bw K)) (F := fun x => resOf K F.own (F.f x.1)) (pre := fun x => F.f x.1 ≠ .no) ⟨xs, hm⟩ h (by rw [hf]; exact fun z => by cases z) hR).run Q s q
    | tr W' =>
      subst w
      exact fun {G σ L0 H} Q s q => (ex_callS (α := {xs : List Av // xs.length = F.m}) (A := fun x => x.1.map (bw K)) (F := fun x => resOf K F.own (F.f x.1)) (pre := fun x => F.f x.1 ≠ .no) ⟨xs, hm⟩ h (by rw [hf]; exact fun z => by cases z) hR).run Q s q
  | ok a =>
    cases ho : F.own with
    | false =>
      simp only
      have hR : resOf K F.own (F.f xs) = .ok (vr K a) := by rw [hf, ho]; rfl
      exact call_any (fun E => ev_call (α := {xs : List Av // xs.length = F.m}) (A := fun x => x.1.map (bw K)) (F := fun x => resOf K F.own (F.f x.1)) (pre := fun x => F.f x.1 ≠ .no) ⟨xs, hm⟩ h (by rw [hf]; exact fun z => by cases z) hR)
        (fun E => ev_callS (α := {xs : List Av // xs.length = F.m}) (A := fun x => x.1.map (bw K)) (F := fun x => resOf K F.own (F.f x.1)) (pre := fun x => F.f x.1 ≠ .no) ⟨xs, hm⟩ h (by rw [hf]; exact fun z => by cases z) hR)
    | true =>
      simp only
      cases hl : asL a with
      | none => simp only; trivial
      | some ds =>
        simp only
        have hR : resOf K F.own (F.f xs) = .own (oL ds) := by rw [hf, ho]; unfold resOf; simp only [hl]
        refine ⟨ds, ?_, ?_⟩
        · cases a with
          | s _ => cases hl
          | i _ _ => cases hl
          | d x => cases x with
            | list es => cases hl; rfl
            | _ => cases hl
        · cases md with
          | out E => exact en_call (α := {xs : List Av // xs.length = F.m}) (A := fun x => x.1.map (bw K)) (F := fun x => resOf K F.own (F.f x.1)) (pre := fun x => F.f x.1 ≠ .no) ⟨xs, hm⟩ h (by rw [hf]; exact fun z => by cases z) hR
          | tr W => exact en_callS (α := {xs : List Av // xs.length = F.m}) (A := fun x => x.1.map (bw K)) (F := fun x => resOf K F.own (F.f x.1)) (pre := fun x => F.f x.1 ≠ .no) ⟨xs, hm⟩ h (by rw [hf]; exact fun z => by cases z) hR
          | qu => exact en_call (α := {xs : List Av // xs.length = F.m}) (A := fun x => x.1.map (bw K)) (F := fun x => resOf K F.own (F.f x.1)) (pre := fun x => F.f x.1 ≠ .no) ⟨xs, hm⟩ h (by rw [hf]; exact fun z => by cases z) hR
def XE.call (F : Fn) (ho : F.own = false) (as : XA K) : XE K := .of (fun md => callT md (F.sp K) (as.ta md)) (fun st => (as.ev st).bind fun xs => if xs.length = F.m then F.f xs else .no)
  fun md st => (as.ok md st).bind (fun C n W h => by
    cases md with
    | out E => exact fun Q s q => h _ s q
    | tr W => exact fun Q s q => h _ s q
    | qu => exact fun Q s q => h _ s q) fun xs h => by
    by_cases hm : xs.length = F.m
    · rw [if_pos hm]
      have := call_args F as md (sls K st) xs hm h
      rw [ho] at this
      cases hf : F.f xs with
      | no => trivial
      | ex C n => rw [hf] at this; exact this
      | ok a => rw [hf] at this; exact this
    · rw [if_neg hm]; trivial
def lOf : Vl → Rs (List PyData)
  | .d (.list ds) => .ok ds
  | _ => .no
def XN.call (F : Fn) (ho : F.own = true) (as : XA K) : XN K where
  te := fun md => callT md (F.sp K) (as.ta md)
  ev := fun st => (as.ev st).bind fun xs => if xs.length = F.m then (F.f xs).bind lOf else .no
  ok := fun md st => (as.ok md st).bind (fun C n W h => by
    cases md with
    | out E => exact fun Q s q => h _ s q
    | tr W => exact fun Q s q => h _ s q
    | qu => exact fun Q s q => h _ s q) fun xs h => by
    by_cases hm : xs.length = F.m
    · rw [if_pos hm]
      have := call_args F as md (sls K st) xs hm h
      rw [ho] at this
      cases hf : F.f xs with
      | no => trivial
      | ex C n => rw [hf] at this; exact this
      | ok a =>
        rw [hf] at this
        show Cm _ _ _ _ (lOf a)
        cases a with
        | s _ => trivial
        | i _ _ => trivial
        | d x =>
          cases x with
          | list ds =>
            obtain ⟨ds', e, h'⟩ := this
            cases e
            exact h'
          | _ => trivial
    · rw [if_neg hm]; trivial
end
end R

set_option Elab.async false
set_option linter.all false
set_option maxRecDepth 100000
set_option maxHeartbeats 2000000
namespace R
open PySem PySem.Spec PyProof.Rows L2 Z
section
variable {K : PySem.W.Frag}
/-! slices -/
def XO.none : XO K where
  to := fun _ => tNoPart
  ev := fun _ => .ok Option.none
  ok := fun _ _ => eo_none
def iOf : Vl → Option Int
  | .d (.int n) => some n
  | _ => none
theorem iOf_some {x : Vl} {n : Int} (h : iOf x = some n) : x = .d (.int n) := by
  cases x with
  | s _ => cases h
  | i _ _ => cases h
  | d x =>
    cases x with
    | int c => cases h; rfl
    | _ => cases h
def XE.iv (e : XE K) (st : List Sv) : Rs Int := (e.ev st).bind fun x => Rs.of (iOf x)
theorem XE.iv_ok (e : XE K) (md : Md) (st : List Sv) : Cm md (e.te md) (sls K st) (fun b => Ev (e.te md) (sls K st) (pu (dI b))) (e.iv st) :=
  (e.ok md st).bind (fun _ _ _ h => h) fun x hx => by
    cases h : iOf x with
    | none => trivial
    | some b => rw [iOf_some h] at hx; exact hx
def XO.some (e : XE K) : XO K where
  to := fun md => tPart (e.te md)
  ev := fun st => (e.iv st).bind fun n => .ok (Option.some n)
  ok := fun md st => (e.iv_ok md st).bind (fun C n W h => fun Q s q => h _ s q) fun n h => eo_some h
def XN.sl (e : XE K) (lo hi : XO K) : XN K where
  te := fun md => tSl (rSlL K) (e.te md) (lo.to md) (hi.to md)
  ev := fun st => match e.el st, okV (lo.ev st), okV (hi.ev st) with
    | .some ds, .some l, .some h => .ok (cutD ds l h)
    | _, _, _ => .no
  ok := fun md st => by
    cases h1 : e.el st with
    | none => simp only; trivial
    | some ds =>
      cases h2 : okV (lo.ev st) with
      | none => simp only; trivial
      | some l =>
        cases h3 : okV (hi.ev st) with
        | none => simp only; trivial
        | some u =>
          have o1 := lo.ok md st
          have o2 := hi.ok md st
          rw [okV_some h2] at o1
          rw [okV_some h3] at o2
          exact en_sl (e.okl md st ds h1) o1 o2
/-! walks -/
def XI.list (e : XE K) : XI K where
  ti := fun md => iList K (e.te md)
  ev := fun st => match e.es st with
    | .some ds => .ok ds
    | .none => match e.ev st with
      | .ex C n => .ex C n
      | _ => .no
  ok := fun md st => by
    cases h : e.es st with
    | some ds => exact ei_list (e.oks md st ds h)
    | none =>
      have := e.ok md st
      cases he : e.ev st with
      | ok a => simp only; trivial
      | no => simp only; trivial
      | ex C n => simp only; rw [he] at this; exact fun l W w => fun Q s q => this l W w _ s q
def avI1 : List Av → Option Int
  | [.v (.d (.int n))] => some n
  | _ => none
theorem avI1_some {as : List Av} {n : Int} (h : avI1 as = some n) : as = [.v (.d (.int n))] := by
  unfold avI1 at h
  split at h
  · cases h; rfl
  · cases h
def avI2 : List Av → Option (Int × Int)
  | [.v (.d (.int n)), .v (.d (.int m))] => some (n, m)
  | _ => none
theorem avI2_some {as : List Av} {n : Int × Int} (h : avI2 as = some n) : as = [.v (.d (.int n.1)), .v (.d (.int n.2))] := by
  unfold avI2 at h
  split at h
  · cases h; rfl
  · cases h
def XI.range1 (as : XA K) : XI K where
  ti := fun md => iRng1 (as.ta md)
  ev := fun st => (as.ev st).bind fun xs => match avI1 xs with
    | some n => if n.natAbs < 4611686018427387904 then .ok (irange 0 n.toNat) else .no
    | none => .no
  ok := fun md st => (as.ok md st).bind (fun C n W h => fun Q s q => h _ s q) fun xs h => by
    cases hx : avI1 xs with
    | none => simp only; trivial
    | some n =>
      rw [avI1_some hx] at h
      simp only
      split
      · rename_i hn
        exact ei_range1 h (by omega) (by omega)
      · trivial
def XI.range2 (as : XA K) : XI K where
  ti := fun md => iRng2 (as.ta md)
  ev := fun st => (as.ev st).bind fun xs => match avI2 xs with
    | some n => if n.1.natAbs < 4611686018427387904 ∧ n.2.natAbs < 4611686018427387904 then .ok (irange n.1 (n.2 - n.1).toNat) else .no
    | none => .no
  ok := fun md st => (as.ok md st).bind (fun C n W h => fun Q s q => h _ s q) fun xs h => by
    cases hx : avI2 xs with
    | none => simp only; trivial
    | some n =>
      rw [avI2_some hx] at h
      simp only
      split
      · rename_i hn
        exact ei_range2 h (by omega) (by omega) (by omega) (by omega)
      · trivial
def enumD (ds : List PyData) : List PyData := ds.zipIdx.map fun p => .tuple [.int ((p.2 : Nat) : Int), p.1]
def XI.enum (e : XE K) : XI K where
  ti := fun md => iEnum K (tCons (e.te md) tNil)
  ev := fun st => match e.es st with
    | .some ds => .ok (enumD ds)
    | .none => .no
  ok := fun md st => by
    cases h : e.es st with
    | some ds => exact ei_enum (e.oks md st ds h)
    | none => trivial
/-! targets -/
theorem agree_refl {st : List Sv} : agree [] st st := ⟨rfl, fun _ _ => rfl⟩
def XG.name (i : Nat) : XG K where
  tg := gName i
  T := [i]
  ev := fun d st => if i < st.length then some (st.set i (.v (.d d))) else none
  ok := fun d st st' h => by
    split at h
    · cases h
      refine ⟨?_, by rw [List.length_set], fun j hj => List.getElem?_set_ne (fun z => hj (by rw [z]; exact List.mem_cons_self ..))⟩
      rw [sls_set]
      exact eg_name
    · cases h
def XGs.nil : XGs K where
  tg := gNil
  n := 0
  T := []
  ev := fun ds st => match ds with
    | [] => some st
    | _ => none
  ok := fun ds st st' h => by
    cases ds with
    | nil => cases h; exact ⟨egs_nil, agree_refl, rfl⟩
    | cons _ _ => cases h
def XGs.cons (g : XG K) (r : XGs K) : XGs K where
  tg := gCons g.tg r.tg
  n := r.n + 1
  T := g.T ++ r.T
  ev := fun ds st => match ds with
    | d :: ds => (g.ev d st).bind fun st1 => r.ev ds st1
    | [] => none
  ok := fun ds st st' h => by
    cases ds with
    | nil => cases h
    | cons d ds =>
      obtain ⟨st1, h1, h2⟩ := Option.bind_eq_some_iff.mp h
      obtain ⟨a1, b1⟩ := g.ok d st st1 h1
      obtain ⟨a2, b2, c2⟩ := r.ok ds st1 st' h2
      refine ⟨egs_cons a1 a2, ⟨b2.1.trans b1.1, fun j hj => ?_⟩, by rw [List.length_cons, c2]⟩
      rw [b2.2 j (fun z => hj (List.mem_append_right _ z)), b1.2 j (fun z => hj (List.mem_append_left _ z))]
def XG.tup (gs : XGs K) : XG K where
  tg := gTup K gs.n gs.tg
  T := gs.T
  ev := fun d st => match d with
    | .tuple ds => gs.ev ds st
    | _ => none
  ok := fun d st st' h => by
    cases d with
    | tuple ds =>
      obtain ⟨a, b, c⟩ := gs.ok ds st st' h
      exact ⟨eg_tup a c, b⟩
    | _ => cases h
def XG.lst (gs : XGs K) : XG K where
  tg := gLst K gs.n gs.tg
  T := gs.T
  ev := fun d st => match d with
    | .list ds => gs.ev ds st
    | _ => none
  ok := fun d st st' h => by
    cases d with
    | list ds =>
      obtain ⟨a, b, c⟩ := gs.ok ds st st' h
      exact ⟨eg_lst a c, b⟩
    | _ => cases h
/-! comprehensions -/
def Sv.isX : Sv → Bool
  | .x => true
  | _ => false
def allXb (st : List Sv) (vs : List Nat) : Bool := vs.all fun v => match st[v]? with
  | some s => s.isX
  | none => false
theorem allXb_ok {st : List Sv} : ∀ {vs : List Nat}, allXb st vs = true → AllX (sls K st) vs
  | [], _ => trivial
  | v :: vs, h => by
    unfold allXb at h
    rw [List.all_cons, Bool.and_eq_true] at h
    refine ⟨?_, allXb_ok h.2⟩
    have h1 := h.1
    cases hs : st[v]? with
    | none => rw [hs] at h1; cases h1
    | some s =>
      rw [hs] at h1
      cases s with
      | x => exact sls_get (K := K) hs
      | _ => cases h1
theorem allXb_at {st : List Sv} {vs : List Nat} (h : allXb st vs = true) {v : Nat} (hv : v ∈ vs) : st[v]? = some .x := by
  have := List.all_eq_true.mp h v hv
  cases hs : st[v]? with
  | none => rw [hs] at this; cases this
  | some s =>
    rw [hs] at this
    cases s with
    | x => rfl
    | _ => cases this
theorem wk_of : ∀ {ρ1 ρ : List Sl}, ρ1.length = ρ.length → (∀ j : Nat, ρ[j]? = some Sl.x ∨ ρ1[j]? = ρ[j]?) → Wk ρ1 ρ
  | [], [], _, _ => .nil
  | [], _ :: _, h, _ => by cases h
  | _ :: _, [], h, _ => by cases h
  | a :: ρ1, b :: ρ, h, k => by
    have r : Wk ρ1 ρ := wk_of (by simpa using h) fun j => by simpa using k (j + 1)
    have h0 := k 0
    simp only [List.getElem?_cons_zero] at h0
    rcases h0 with h0 | h0
    · cases h0; exact .x r
    · cases h0; exact .k r
theorem wk_agree {T vs : List Nat} {st st1 : List Sv} (a : agree T st st1) (hx : allXb st vs = true) (ht : ∀ i ∈ T, i ∈ vs) : Wk (sls K st1) (sls K st) :=
  wk_of (by rw [sls_len, sls_len, a.1]) fun j => by
    by_cases hj : j ∈ T
    · exact .inl (sls_get (K := K) (allXb_at hx (ht j hj)))
    · right
      unfold sls
      rw [List.getElem?_map, List.getElem?_map, a.2 j hj]
section
variable (g : XG K) (c : XT K) (e : XE K) (st : List Sv)
def lcOne (d : PyData) : Option (Option PyData) := (g.ev d st).bind fun st1 => match okV (c.ev st1) with
  | some false => some none
  | some true => match okV (e.ev st1) with
    | some (.d x) => some (some x)
    | _ => none
  | none => none
def lcL : List PyData → Option (List PyData)
  | [] => some []
  | d :: ds => (lcOne g c e st d).bind fun o => (lcL ds).map fun r => match o with
    | some x => x :: r
    | none => r
def lcP (d : PyData) : Bool := match lcOne g c e st d with
  | some (some _) => true
  | _ => false
def lcF (d : PyData) : PyData := match lcOne g c e st d with
  | some (some x) => x
  | _ => .none
theorem lcL_some : ∀ {ds r : List PyData}, lcL g c e st ds = some r → r = (ds.filter (lcP g c e st)).map (lcF g c e st) ∧ ∀ d ∈ ds, lcOne g c e st d ≠ none
  | [], r, h => by cases h; exact ⟨rfl, fun _ z => nomatch z⟩
  | d :: ds, r, h => by
    obtain ⟨o, h1, h2⟩ := Option.bind_eq_some_iff.mp (show (lcOne g c e st d).bind _ = some r from h)
    obtain ⟨r', h3, h4⟩ := Option.map_eq_some_iff.mp h2
    obtain ⟨i1, i2⟩ := lcL_some h3
    refine ⟨?_, fun d' hd => ?_⟩
    · cases o with
      | none =>
        have : lcP g c e st d = false := by unfold lcP; rw [h1]
        rw [List.filter_cons, this]
        simp only at h4
        rw [← h4, i1]
        rfl
      | some x =>
        have : lcP g c e st d = true := by unfold lcP; rw [h1]
        have hf : lcF g c e st d = x := by unfold lcF; rw [h1]
        rw [List.filter_cons, this]
        simp only at h4
        rw [← h4, i1, if_pos rfl, List.map_cons, hf]
    · rcases List.mem_cons.mp hd with z | z
      · rw [z, h1]; exact fun y => nomatch y
      · exact i2 d' z
end
def XN.lc (it : XI K) (g : XG K) (c : XT K) (e : XE K) (vs : List Nat) : XN K where
  te := fun md => tLc (it.ti md) g.tg (c.tt .qu) (e.te .qu) vs
  ev := fun st => (it.ev st).bind fun ds => if ds.length ≤ 100000 ∧ allXb st vs = true ∧ (g.T.all fun i => decide (i ∈ vs)) = true then Rs.of (lcL g c e st ds) else .no
  ok := fun md st => (it.ok md st).bind (fun C n W h => fun Q s q => h _ s q) fun ds h => by
    split
    · rename_i hc
      cases hl : lcL g c e st ds with
      | none => trivial
      | some r =>
        obtain ⟨h1, h2⟩ := lcL_some g c e st hl
        show EvN _ _ r
        rw [h1]
        have hts : ∀ i ∈ g.T, i ∈ vs := fun i hi => of_decide_eq_true (List.all_eq_true.mp hc.2.2 i hi)
        refine en_lc (en := id) (by rw [List.map_id]; exact h) (allXb_ok hc.2.1) hc.1 fun d hd => ?_
        have hne := h2 d hd
        cases ho : lcOne g c e st d with
        | none => exact absurd ho hne
        | some o =>
          obtain ⟨st1, g1, g2⟩ := Option.bind_eq_some_iff.mp (show (g.ev d st).bind _ = some o from ho)
          obtain ⟨eg, ag⟩ := g.ok d st st1 g1
          refine ⟨g.T, sls K st1, eg, hts, wk_agree ag hc.2.1 hts, ?_, ?_⟩
          · have hct := c.ok .qu st1
            cases hcv : okV (c.ev st1) with
            | none => rw [hcv] at g2; cases g2
            | some b =>
              rw [okV_some hcv] at hct
              refine EvT.is hct ?_
              rw [hcv] at g2
              unfold lcP
              rw [ho]
              cases b with
              | false => cases g2; rfl
              | true =>
                simp only at g2
                split at g2
                · cases g2; rfl
                · cases g2
          · intro hp
            cases hcv : okV (c.ev st1) with
            | none => rw [hcv] at g2; cases g2
            | some b =>
              rw [hcv] at g2
              unfold lcF
              unfold lcP at hp
              rw [ho] at hp ⊢
              cases b with
              | false => cases g2; cases hp
              | true =>
                simp only at g2
                have het := e.ok .qu st1
                split at g2
                · rename_i x hx
                  cases g2
                  rw [okV_some hx] at het
                  exact het
                · cases g2
    · trivial
end
end R

set_option Elab.async false
set_option linter.all false
set_option maxRecDepth 100000
set_option maxHeartbeats 2000000
namespace R
open PySem PySem.Spec PyProof.Rows L2 Z
inductive Oc where
  | nx (st : List Sv) | rt (a : Vl) | ro (ds : List PyData) | bk (st : List Sv) | ct (st : List Sv) | xc (st : List Sv) (C : Addr) (n : Int) | no
def OcOk (K : PySem.W.Frag) (md : Md) (W : WX) (t : TS) (ρ : List Sl) : Oc → Prop
  | .nx st => Ex W t ρ (.nx (sls K st))
  | .rt a => Ex W t ρ (.rt (vr K a))
  | .ro ds => Ex W t ρ (.ro (oL ds))
  | .bk st => Ex W t ρ (.bk (sls K st))
  | .ct st => Ex W t ρ (.ct (sls K st))
  | .xc st C n => md.loud = true → Ex W t ρ (.xc (sls K st) C n)
  | .no => True
structure XS (K : PySem.W.Frag) where
  ts : Md → TS
  ev : List Sv → Oc
  ok : ∀ md W st, md.fits W → OcOk K md W (ts md) (sls K st) (ev st)
section
variable {K : PySem.W.Frag}
def Rs.oc {α : Type} (st : List Sv) (k : α → Oc) : Rs α → Oc
  | .ok a => k a
  | .ex C n => .xc st C n
  | .no => .no
theorem oc_ok {α β : Type} {md : Md} {W : WX} {t : L2.St → Hp → β → Prop} {u : TS} {st : List Sv} {P : α → Prop} {r : Rs α} {k : α → Oc} (w : md.fits W) (h : Cm md t (sls K st) P r)
    (hx : ∀ C n, EvXg W t (sls K st) C n → Ex W u (sls K st) (.xc (sls K st) C n)) (hk : ∀ a, P a → OcOk K md W u (sls K st) (k a)) : OcOk K md W u (sls K st) (r.oc st k) := by
  cases r with
  | ok a => exact hk a h
  | ex C n => exact fun l => hx C n (h l W w)
  | no => trivial
def XS.nx : XS K where
  ts := fun _ => tNext
  ev := fun st => .nx st
  ok := fun md W st w => Ex.next
def XS.brk : XS K where
  ts := fun _ => tBreak
  ev := fun st => .bk st
  ok := fun md W st w => Ex.break_
def XS.cnt : XS K where
  ts := fun _ => tCont
  ev := fun st => .ct st
  ok := fun md W st w => Ex.cont
def XS.seq (a b : XS K) : XS K where
  ts := fun md => tSeq (a.ts md) (b.ts md)
  ev := fun st => match a.ev st with
    | .nx st' => b.ev st'
    | o => o
  ok := fun md W st w => by
    have ha := a.ok md W st w
    cases he : a.ev st with
    | nx st' =>
      rw [he] at ha
      have hb := b.ok md W st' w
      show OcOk K md W _ _ (b.ev st')
      cases hf : b.ev st' with
      | no => trivial
      | xc s C n => rw [hf] at hb; exact fun l => Ex.seq ha (hb l)
      | nx s => rw [hf] at hb; exact Ex.seq ha hb
      | rt s => rw [hf] at hb; exact Ex.seq ha hb
      | ro s => rw [hf] at hb; exact Ex.seq ha hb
      | bk s => rw [hf] at hb; exact Ex.seq ha hb
      | ct s => rw [hf] at hb; exact Ex.seq ha hb
    | no => trivial
    | xc s C n => rw [he] at ha; exact fun l => Ex.seqE (ha l) rfl
    | rt s => rw [he] at ha; exact Ex.seqE ha rfl
    | ro s => rw [he] at ha; exact Ex.seqE ha rfl
    | bk s => rw [he] at ha; exact Ex.seqE ha rfl
    | ct s => rw [he] at ha; exact Ex.seqE ha rfl
def XS.set (i : Nat) (e : XE K) : XS K where
  ts := fun md => tAsg (e.te md) (gName i)
  ev := fun st => (e.ev st).oc st fun a => .nx (st.set i (.v a))
  ok := fun md W st w => oc_ok w (e.ok md st) (fun C n h => Ex.asgX ⟨h⟩) fun a h => by
    show Ex _ _ _ (.nx (sls K (st.set i (.v a))))
    rw [sls_set]
    exact Ex.set (i := i) h
def XS.setN (i : Nat) (e : XN K) : XS K where
  ts := fun md => tAsg (e.te md) (gName i)
  ev := fun st => (e.ev st).oc st fun ds => if i < st.length then .nx (st.set i (.ol ds)) else .no
  ok := fun md W st w => oc_ok w (e.ok md st) (fun C n h => Ex.asgX ⟨h⟩) fun a h => by
    split
    · show Ex _ _ _ (.nx (sls K (st.set i (.ol a))))
      rw [sls_set]
      exact Ex.setN h (by rw [sls_len]; assumption)
    · trivial
def XS.asg (g : XG K) (e : XE K) : XS K where
  ts := fun md => tAsg (e.te md) g.tg
  ev := fun st => (e.ev st).oc st fun a => match a with
    | .d d => match g.ev d st with
      | some st' => .nx st'
      | none => .no
    | _ => .no
  ok := fun md W st w => oc_ok w (e.ok md st) (fun C n h => Ex.asgX ⟨h⟩) fun a h => by
    cases a with
    | s _ => trivial
    | i _ _ => trivial
    | d d =>
      simp only
      cases hg : g.ev d st with
      | none => trivial
      | some st' => exact Ex.asg (R := dat d) h (g.ok d st st' hg).1
def XS.aug (i : Nat) (o : O2 K) (ho : o.ka = false ∧ o.kb = false) (e : XE K) : XS K where
  ts := fun md => tAug i (e.te md) o.r
  ev := fun st => match st[i]? with
    | some (.v a) => match okV (e.ev st) with
      | some b => match o.f (.v a) (.v b) with
        | some c => .nx (st.set i (.v c))
        | none => .no
      | none => .no
    | _ => .no
  ok := fun md W st w => by
    cases hi : st[i]? with
    | none => trivial
    | some s =>
      cases s with
      | v a =>
        show OcOk K md W _ _ (match okV (e.ev st) with
          | some b => _
          | none => _)
        cases he : okV (e.ev st) with
        | none => trivial
        | some b =>
          show OcOk K md W _ _ (match o.f (.v a) (.v b) with
            | some c => _
            | none => _)
          cases hf : o.f (.v a) (.v b) with
          | none => trivial
          | some c =>
            have h := e.ok md st
            rw [okV_some he] at h
            show Ex _ _ _ (.nx (sls K (st.set i (.v c))))
            rw [sls_set]
            exact Ex.aug (sls_get (K := K) hi) h (o.ok _ _ _ hf)
      | _ => trivial
def XS.seti (i : Nat) (k e : XE K) : XS K where
  ts := fun md => tAsg (e.te md) (gSub (tVar i) (k.te md) rSetL)
  ev := fun st => match st[i]? with
    | some (.ol ds) => (e.ev st).oc st fun a => match a with
      | .d d => match okV (k.iv st) with
        | some n => match ixN ds.length n with
          | some j => .nx (st.set i (.ol (ds.set j d)))
          | none => .no
        | none => .no
      | _ => .no
    | _ => .no
  ok := fun md W st w => by
    split
    · rename_i ds hi
      refine oc_ok w (e.ok md st) (fun C n h => Ex.asgX ⟨h⟩) fun a h => ?_
      split
      · rename_i d
        split
        · rename_i n hk
          split
          · rename_i j hj
            have h2 := k.iv_ok md st
            rw [okV_some hk] at h2
            show Ex _ _ _ (.nx (sls K (st.set i (.ol (ds.set j d)))))
            rw [sls_set]
            exact Ex.setitem (sls_get (K := K) hi) h h2 hj
          · trivial
        · trivial
      · trivial
    · trivial
def XS.app (i : Nat) (e : XE K) : XS K where
  ts := fun md => tDrop (tBM K "list" rAppend (tVar i) (tCons (e.te md) tNil))
  ev := fun st => match st[i]? with
    | some (.ol ds) => (e.ev st).oc st fun a => match a with
      | .d d => if ds.length < 1000000 then .nx (st.set i (.ol (ds ++ [d]))) else .no
      | _ => .no
    | _ => .no
  ok := fun md W st w => by
    cases hi : st[i]? with
    | none => trivial
    | some s =>
      cases s with
      | ol ds =>
        refine oc_ok w (e.ok md st) (fun C n h => Ex.appendX (sls_get (K := K) hi) ⟨h⟩ rfl) fun a h => ?_
        cases a with
        | s _ => trivial
        | i _ _ => trivial
        | d d =>
          simp only
          split
          · show Ex _ _ _ (.nx (sls K (st.set i (.ol (ds ++ [d])))))
            rw [sls_set]
            exact Ex.append (sls_get (K := K) hi) h (by assumption) rfl
          · trivial
      | _ => trivial
theorem Ex.ifX {t : TT} {a b : TS} {ρ : List Sl} {W : WX} {C : Addr} {n : Int} (h : EvXg W t ρ C n) : Ex W (tIfS t a b) ρ (.xc ρ C n) := ⟨fun D s q => h _ s fun G' H' d e s' hd => q G' _ H' d e s' hd⟩
def XS.ite (t : XT K) (a b : XS K) : XS K where
  ts := fun md => tIfS (t.tt md) (a.ts md) (b.ts md)
  ev := fun st => (t.ev st).oc st fun x => match x with
    | true => a.ev st
    | false => b.ev st
  ok := fun md W st w => oc_ok w (t.ok md st) (fun C n h => Ex.ifX h) fun x h => by
    cases x with
    | true =>
      have ha := a.ok md W st w
      show OcOk K md W _ _ (a.ev st)
      cases he : a.ev st with
      | no => trivial
      | xc s C n => rw [he] at ha; exact fun l => Ex.ife h (fun _ => ha l) (fun z => nomatch z)
      | nx s => rw [he] at ha; exact Ex.ife h (fun _ => ha) (fun z => nomatch z)
      | rt s => rw [he] at ha; exact Ex.ife h (fun _ => ha) (fun z => nomatch z)
      | ro s => rw [he] at ha; exact Ex.ife h (fun _ => ha) (fun z => nomatch z)
      | bk s => rw [he] at ha; exact Ex.ife h (fun _ => ha) (fun z => nomatch z)
      | ct s => rw [he] at ha; exact Ex.ife h (fun _ => ha) (fun z => nomatch z)
    | false =>
      have ha := b.ok md W st w
      show OcOk K md W _ _ (b.ev st)
      cases he : b.ev st with
      | no => trivial
      | xc s C n => rw [he] at ha; exact fun l => Ex.ife h (fun z => nomatch z) (fun _ => ha l)
      | nx s => rw [he] at ha; exact Ex.ife h (fun z => nomatch z) (fun _ => ha)
      | rt s => rw [he] at ha; exact Ex.ife h (fun z => nomatch z) (fun _ => ha)
      | ro s => rw [he] at ha; exact Ex.ife h (fun z => nomatch z) (fun _ => ha)
      | bk s => rw [he] at ha; exact Ex.ife h (fun z => nomatch z) (fun _ => ha)
      | ct s => rw [he] at ha; exact Ex.ife h (fun z => nomatch z) (fun _ => ha)
def XS.ret (e : XE K) : XS K where
  ts := fun md => tRet (e.te md)
  ev := fun st => (e.ev st).oc st .rt
  ok := fun md W st w => oc_ok w (e.ok md st) (fun C n h => Ex.retX ⟨h⟩) fun a h => Ex.ret h
def XS.retN : XS K where
  ts := fun _ => tRetN
  ev := fun _ => .rt (.d .none)
  ok := fun md W st w => Ex.retN
def XS.retO (e : XN K) : XS K where
  ts := fun md => tRet (e.te md)
  ev := fun st => (e.ev st).oc st .ro
  ok := fun md W st w => oc_ok w (e.ok md st) (fun C n h => Ex.retX ⟨h⟩) fun a h => Ex.retO h
def XS.retV (i : Nat) : XS K where
  ts := fun _ => tRet (tVar i)
  ev := fun st => match st[i]? with
    | some (.ol ds) => .ro ds
    | _ => .no
  ok := fun md W st w => by
    cases hi : st[i]? with
    | none => trivial
    | some s =>
      cases s with
      | ol ds => exact Ex.retOv (sls_get (K := K) hi)
      | _ => trivial
def XS.drop (e : XE K) : XS K where
  ts := fun md => tDrop (e.te md)
  ev := fun st => (e.ev st).oc st fun _ => .nx st
  ok := fun md W st w => oc_ok w (e.ok md st) (fun C n h => Ex.dropX ⟨h⟩) fun a h => Ex.drop h
/-- the list at slot i stays as it is from here on -/
def frz (i : Nat) (st : List Sv) : List Sv := match st[i]? with
  | some (.ol ds) => st.set i (.v (.d (.list ds)))
  | _ => st
theorem frz_ok {t : TS} {W : WX} {o : Out} {i : Nat} {st : List Sv} (h : Ex W t (sls K (frz i st)) o) : Ex W t (sls K st) o := by
  unfold frz at h
  cases hi : st[i]? with
  | none => rw [hi] at h; exact h
  | some s =>
    rw [hi] at h
    cases s with
    | ol ds =>
      simp only at h
      rw [sls_set] at h
      exact Ex.freeze i (sls_get (K := K) hi) h
    | _ => exact h
def XS.frz (i : Nat) (a : XS K) : XS K where
  ts := a.ts
  ev := fun st => a.ev (R.frz i st)
  ok := fun md W st w => by
    have ha := a.ok md W (R.frz i st) w
    show OcOk K md W _ _ (a.ev (R.frz i st))
    cases he : a.ev (R.frz i st) with
    | no => trivial
    | xc s C n => rw [he] at ha; exact fun l => frz_ok (ha l)
    | nx s => rw [he] at ha; exact frz_ok ha
    | rt s => rw [he] at ha; exact frz_ok ha
    | ro s => rw [he] at ha; exact frz_ok ha
    | bk s => rw [he] at ha; exact frz_ok ha
    | ct s => rw [he] at ha; exact frz_ok ha
/-! loops -/
def lp (g : XG K) (b : XS K) : List PyData → List Sv → Oc
  | [], st => .nx st
  | d :: ds, st => match g.ev d st with
    | none => .no
    | some st1 => match b.ev st1 with
      | .nx st2 => lp g b ds st2
      | .ct st2 => lp g b ds st2
      | .bk st2 => .nx st2
      | o => o
def lpF (K : PySem.W.Frag) (g : XG K) (b : XS K) (st : List Sv) (d : PyData) : Sum (List Sv) Out := match g.ev d st with
  | none => .inl st
  | some st1 => match b.ev st1 with
    | .nx st2 => .inl st2
    | .ct st2 => .inl st2
    | .bk st2 => .inr (.bk (sls K st2))
    | .rt a => .inr (.rt (vr K a))
    | .ro ds => .inr (.ro (oL ds))
    | .xc s C n => .inr (.xc (sls K s) C n)
    | .no => .inl st
def good (g : XG K) (b : XS K) (o : Oc) (st : List Sv) (d : PyData) : Prop := ∃ st1, g.ev d st = some st1 ∧ b.ev st1 ≠ .no ∧ ∀ s C n, b.ev st1 = .xc s C n → o = .xc s C n
def lpO (K : PySem.W.Frag) : Oc → Out
  | .nx st => .nx (sls K st)
  | .rt a => .rt (vr K a)
  | .ro ds => .ro (oL ds)
  | .bk st => .bk (sls K st)
  | .ct st => .ct (sls K st)
  | .xc st C n => .xc (sls K st) C n
  | .no => .nx []
theorem lp_run (g : XG K) (b : XS K) : ∀ (ds : List PyData) (st : List Sv), lp g b ds st ≠ .no →
    loopOut (sls K) (runF (lpF K g b) st ds) = lpO K (lp g b ds st) ∧ ∀ pre d post s, ds = pre ++ d :: post → runF (lpF K g b) st pre = .inl s → good g b (lp g b ds st) s d
  | [], st, h => ⟨rfl, fun pre d post s e => by simp at e⟩
  | d :: ds, st, h => by
    unfold lp at h ⊢
    cases hg : g.ev d st with
    | none => rw [hg] at h; exact absurd rfl h
    | some st1 =>
      rw [hg] at h
      simp only at h ⊢
      have key : ∀ st2, lpF K g b st d = .inl st2 → lp g b ds st2 ≠ .no → b.ev st1 ≠ .no → (∀ s C n, b.ev st1 ≠ .xc s C n) → loopOut (sls K) (runF (lpF K g b) st (d :: ds)) = lpO K (lp g b ds st2) ∧ ∀ pre d' post s, d :: ds = pre ++ d' :: post → runF (lpF K g b) st pre = .inl s → good g b (lp g b ds st2) s d' := by
        intro st2 e1 hn hb hx
        obtain ⟨i1, i2⟩ := lp_run g b ds st2 hn
        refine ⟨?_, fun pre d' post s e r => ?_⟩
        · have : runF (lpF K g b) st (d :: ds) = runF (lpF K g b) st2 ds := by
            conv => lhs; unfold runF
            rw [e1]
          rw [this, i1]
        · cases pre with
          | nil =>
            cases r
            cases e
            exact ⟨st1, hg, hb, fun s C n z => absurd z (hx s C n)⟩
          | cons p pre =>
            cases e
            have : runF (lpF K g b) st (d :: pre) = runF (lpF K g b) st2 pre := by
              conv => lhs; unfold runF
              rw [e1]
            rw [this] at r
            exact i2 pre d' post s rfl r
      have stop : ∀ o O, lpF K g b st d = .inr o → b.ev st1 ≠ .no → (∀ s C n, b.ev st1 = .xc s C n → O = .xc s C n) → loopOut (sls K) (runF (lpF K g b) st (d :: ds)) = unbk o ∧ ∀ pre d' post s, d :: ds = pre ++ d' :: post → runF (lpF K g b) st pre = .inl s → good g b O s d' := by
        intro o O e1 hb hx
        refine ⟨?_, fun pre d' post s e r => ?_⟩
        · conv => lhs; unfold runF
          rw [e1]
          rfl
        · cases pre with
          | nil =>
            cases r
            cases e
            exact ⟨st1, hg, hb, hx⟩
          | cons p pre =>
            cases e
            have : runF (lpF K g b) st (d :: pre) = .inr o := by
              conv => lhs; unfold runF
              rw [e1]
            rw [this] at r
            cases r
      have hf : ∀ o, b.ev st1 = o → lpF K g b st d = (match o with
          | .nx st2 => .inl st2
          | .ct st2 => .inl st2
          | .bk st2 => .inr (.bk (sls K st2))
          | .rt a => .inr (.rt (vr K a))
          | .ro ds => .inr (.ro (oL ds))
          | .xc s C n => .inr (.xc (sls K s) C n)
          | .no => .inl st) := fun o ho => by
        unfold lpF
        rw [hg]
        simp only [ho]
      cases hb : b.ev st1 with
      | no => rw [hb] at h; exact absurd rfl h
      | nx st2 => rw [hb] at h; exact key st2 (hf _ hb) h (by rw [hb]; exact fun z => nomatch z) (by rw [hb]; exact fun _ _ _ z => nomatch z)
      | ct st2 => rw [hb] at h; exact key st2 (hf _ hb) h (by rw [hb]; exact fun z => nomatch z) (by rw [hb]; exact fun _ _ _ z => nomatch z)
      | bk st2 => exact stop _ _ (hf _ hb) (by rw [hb]; exact fun z => nomatch z) (by rw [hb]; exact fun _ _ _ z => nomatch z)
      | rt a => exact stop _ _ (hf _ hb) (by rw [hb]; exact fun z => nomatch z) (by rw [hb]; exact fun _ _ _ z => nomatch z)
      | ro a => exact stop _ _ (hf _ hb) (by rw [hb]; exact fun z => nomatch z) (by rw [hb]; exact fun _ _ _ z => nomatch z)
      | xc s C n => exact stop _ _ (hf _ hb) (by rw [hb]; exact fun z => nomatch z) (by rw [hb]; exact fun _ _ _ z => z)
def XS.for_ (it : XI K) (g : XG K) (b : XS K) : XS K where
  ts := fun md => tFor (it.ti md) g.tg (b.ts md)
  ev := fun st => (it.ev st).oc st fun ds => lp g b ds st
  ok := fun md W st w => oc_ok w (it.ok md st) (fun C n h => ⟨fun D s q => h _ s fun G' H' d e s' hd => q G' _ H' d e s' hd⟩) fun ds hi => by
    by_cases hl : md.loud = true ∨ ∀ s C n, lp g b ds st ≠ .xc s C n
    · by_cases hno : lp g b ds st = .no
      · rw [hno]; trivial
      · obtain ⟨h1, h2⟩ := lp_run g b ds st hno
        have main : Ex W (tFor (it.ti md) g.tg (b.ts md)) (sls K st) (lpO K (lp g b ds st)) := by
          rw [← h1]
          refine Ex.forF (K := K) (en := id) (T := []) (sls K) (lpF K g b) (by rw [List.map_id]; exact hi) (Wk.refl _) fun pre x post s e r => ?_
          obtain ⟨st1, g1, g2, g3⟩ := h2 pre x post s e r
          obtain ⟨eg, _⟩ := g.ok x s st1 g1
          have hb := b.ok md W st1 w
          have hf : lpF K g b s x = (match b.ev st1 with
              | .nx st2 => .inl st2
              | .ct st2 => .inl st2
              | .bk st2 => .inr (.bk (sls K st2))
              | .rt a => .inr (.rt (vr K a))
              | .ro ds => .inr (.ro (oL ds))
              | .xc s C n => .inr (.xc (sls K s) C n)
              | .no => .inl s) := by
            unfold lpF
            rw [g1]
          rw [hf]
          cases he : b.ev st1 with
          | no => exact absurd he g2
          | nx st2 => rw [he] at hb; exact ⟨(fun o z => nomatch z), g.T, _, eg, Ex.go hb⟩
          | ct st2 => rw [he] at hb; exact ⟨(fun o z => nomatch z), g.T, _, eg, Ex.goc hb⟩
          | bk st2 => rw [he] at hb; exact ⟨fun o z => by cases z; rfl, g.T, _, eg, hb⟩
          | rt a => rw [he] at hb; exact ⟨fun o z => by cases z; rfl, g.T, _, eg, hb⟩
          | ro a => rw [he] at hb; exact ⟨fun o z => by cases z; rfl, g.T, _, eg, hb⟩
          | xc s2 C n =>
            rw [he] at hb
            exact ⟨fun o z => by cases z; rfl, g.T, _, eg, hb (hl.resolve_right fun z => z _ _ _ (g3 _ _ _ he))⟩
        cases he : lp g b ds st with
        | no => trivial
        | xc s C n => rw [he] at main; exact fun _ => main
        | nx s => rw [he] at main; exact main
        | rt s => rw [he] at main; exact main
        | ro s => rw [he] at main; exact main
        | bk s => rw [he] at main; exact main
        | ct s => rw [he] at main; exact main
    · cases he : lp g b ds st with
      | xc s C n => exact fun l => absurd (.inl l) hl
      | no => trivial
      | nx s => exact absurd (.inr (by rw [he]; exact fun _ _ _ z => nomatch z)) hl
      | rt s => exact absurd (.inr (by rw [he]; exact fun _ _ _ z => nomatch z)) hl
      | ro s => exact absurd (.inr (by rw [he]; exact fun _ _ _ z => nomatch z)) hl
      | bk s => exact absurd (.inr (by rw [he]; exact fun _ _ _ z => nomatch z)) hl
      | ct s => exact absurd (.inr (by rw [he]; exact fun _ _ _ z => nomatch z)) hl
end
end R

set_option Elab.async false
set_option linter.all false
set_option maxRecDepth 100000
set_option maxHeartbeats 2000000
namespace R
open PySem PySem.Spec PyProof.Rows L2 Z
section
variable {K : PySem.W.Frag}
def Md.W : Md → WX
  | .out E => WofE E
  | .tr W => W
  | .qu => fun _ _ _ _ => False
theorem Md.fits_W {md : Md} {W : WX} (l : md.loud = true) (w : md.fits W) : md.W = W := by
  cases md with
  | out E => exact w.symm
  | tr W' => exact w.symm
  | qu => cases l
def raiseT (K : PySem.W.Frag) (md : Md) (C : Addr) (ta : TA) : TS := match md with
  | .out E => fun _ σ H => tMkO C (spAt K) [] ta σ H fun cls d H' => E cls d H'
  | .tr W => fun _ σ H => tMkO C (spAt K) [] ta σ H fun cls d H' => W cls d σ H'
  | .qu => fun _ σ H => tMkO C (spAt K) [] ta σ H fun cls d H' => False
def XS.raise (C : Addr) (hC : OexC K C) (hn : PySem.W.findIn K (.ref C) "at" = some none) (as : XA K) : XS K where
  ts := fun md => raiseT K md C (as.ta md)
  ev := fun st => (as.ev st).oc st fun xs => match avI1 xs with
    | some n => .xc st C n
    | none => .no
  ok := fun md W st w => by
    have h := as.ok md st
    cases he : as.ev st with
    | no => trivial
    | ex C' n =>
      rw [he] at h
      intro l
      have h : EvXg W (as.ta md) (sls K st) C' n := h l W w
      cases md with
      | qu => cases l
      | out E => exact ⟨fun D s q => h _ s fun G' H' d e s' hd => q G' _ H' d e s' hd⟩
      | tr W' => exact ⟨fun D s q => h _ s fun G' H' d e s' hd => q G' _ H' d e s' hd⟩
    | ok xs =>
      rw [he] at h
      show OcOk K md W _ _ (match avI1 xs with
        | some n => _
        | none => _)
      cases hx : avI1 xs with
      | none => trivial
      | some n =>
        rw [avI1_some hx] at h
        intro l
        cases md with
        | qu => cases l
        | out E => subst w; exact Ex.raise_ h hC hn
        | tr W' => subst w; exact Ex.raise_ h hC hn
structure XH (K : PySem.W.Frag) (i : Nat) where
  ts : Addr → Value → Option Addr → TS
  ev : Addr → Int → List Sv → Oc
  ok : ∀ W a d C n st, OcOk K .qu W (ts a (.ref C) (some d)) ((sls K st).set i (.p (errR a d n))) (ev C n st)
def mute : Oc → Oc
  | .xc _ _ _ => .no
  | o => o
def XH.of (i : Nat) (suite : Addr → Value → Option Addr → XS K) (ev : Addr → Int → List Sv → Oc) (h : ∀ (a d C : Addr) (n : Int) (st : List Sv), mute ((suite a (.ref C) (some d)).ev (st.set i (.er a d n))) = ev C n st) : XH K i where
  ts := fun a cls d => (suite a cls d).ts .qu
  ev := ev
  ok := fun W a d C n st => by
    have := (suite a (.ref C) (some d)).ok .qu W (st.set i (.er a d n)) trivial
    rw [sls_set] at this
    rw [← h a d C n st]
    cases he : (suite a (.ref C) (some d)).ev (st.set i (.er a d n)) with
    | xc _ _ _ => trivial
    | no => trivial
    | nx s => rw [he] at this; exact this
    | rt s => rw [he] at this; exact this
    | ro s => rw [he] at this; exact this
    | bk s => rw [he] at this; exact this
    | ct s => rw [he] at this; exact this
def clr (i : Nat) : Oc → Oc
  | .nx st => .nx (st.set i .x)
  | .bk st => .bk (st.set i .x)
  | .ct st => .ct (st.set i .x)
  | .xc _ _ _ => .no
  | o => o
def XS.try_ (i : Nat) (cW : Addr) (b : XS K) (s : XH K i) : XS K where
  ts := fun md D σ H => b.ts (.tr (wAs K (.ref cW) i s.ts md.W D)) D σ H
  ev := fun st => match b.ev st with
    | .xc st1 C n => if PySem.W.exmOne K (.ref C) (.ref cW) = some true then clr i (s.ev C n st1) else .no
    | o => o
  ok := fun md W st w => by
    have hb := fun W' => b.ok (.tr W') W' st rfl
    have tok : ∀ {o : Out}, (∀ W', Ex W' (b.ts (.tr W')) (sls K st) o) → o.quiet = true → Ex W (fun D σ H => b.ts (.tr (wAs K (.ref cW) i s.ts md.W D)) D σ H) (sls K st) o := fun {o} h hq => ⟨fun D s' q => (h _).run D s' (q.anyW hq)⟩
    cases he : b.ev st with
    | no => trivial
    | nx s' => rw [he] at hb; exact tok hb rfl
    | rt s' => rw [he] at hb; exact tok hb rfl
    | ro s' => rw [he] at hb; exact tok hb rfl
    | bk s' => rw [he] at hb; exact tok hb rfl
    | ct s' => rw [he] at hb; exact tok hb rfl
    | xc st1 C n =>
      rw [he] at hb
      show OcOk K md W _ _ (if PySem.W.exmOne K (.ref C) (.ref cW) = some true then clr i (s.ev C n st1) else .no)
      split
      · rename_i hm
        have hs := fun a d => s.ok W a d C n st1
        have tx : ∀ {o : Out}, (∀ a d, Ex W (s.ts a (.ref C) (some d)) ((sls K st1).set i (.p (errR a d n))) o) → Ex W (fun D σ H => b.ts (.tr (wAs K (.ref cW) i s.ts md.W D)) D σ H) (sls K st) (noSlot i o) := fun {o} h =>
          ⟨fun D s' q => (hb _ rfl).run D s' fun G' σ' H' d e s'' hd => ⟨true, hm, fun _ a ha => by
            have g := s''.grow (o := atF n) hd
            obtain ⟨G2, e2, s2⟩ := g.2.set_p (R := errR a d n) ⟨rfl, upd_same⟩ i
            exact (h a d).run _ s2 (q.slot.mono ((e.trans g.1).trans e2)), fun z => nomatch z⟩⟩
        cases hv : s.ev C n st1 with
        | no => trivial
        | xc _ _ _ => trivial
        | nx s' => rw [hv] at hs; show Ex _ _ _ (.nx (sls K (s'.set i .x))); rw [sls_set]; exact tx hs
        | bk s' => rw [hv] at hs; show Ex _ _ _ (.bk (sls K (s'.set i .x))); rw [sls_set]; exact tx hs
        | ct s' => rw [hv] at hs; show Ex _ _ _ (.ct (sls K (s'.set i .x))); rw [sls_set]; exact tx hs
        | rt s' => rw [hv] at hs; exact tx hs
        | ro s' => rw [hv] at hs; exact tx hs
      · trivial
def XE.errAt (i : Nat) (a : Addr) (cls : Value) (d : Option Addr) (kn : List Addr) (hk : ∀ C ∈ kn, XfC K C ∧ PySem.W.findIn K (.ref C) "at" = some none) : XE K := .of (fun _ => tXg K a cls d "at" i)
  (fun st => match cls, d, st[i]? with
    | .ref C, some d', some (.er a' d'' n) => if (a' = a ∧ d'' = d') ∧ C ∈ kn then .ok (.d (.int n)) else .no
    | _, _, _ => .no)
  fun md st => by
    split
    · rename_i C d' a' d'' n hi
      split
      · rename_i hc
        obtain ⟨⟨rfl, rfl⟩, hC⟩ := hc
        exact ev_at (sls_get (K := K) hi) (hk _ hC).1 (hk _ hC).2
      · trivial
    · trivial
def XE.isX (i : Nat) (a : Addr) (cls : Value) (d : Option Addr) (D : Addr) (kn : List Addr) (hk : ∀ C ∈ kn, ExcC K C) : XE K := .of (fun _ => tCB (rIsX K a cls d) (tCons (tVar i) (tCons (tC (.ref D)) tNil)))
  (fun st => match cls, d, st[i]? with
    | .ref C, some d', some (.er a' d'' n) => if (a' = a ∧ d'' = d') ∧ C ∈ kn then Rs.of ((PySem.W.kitOne K (.ref C) (.ref D)).map fun b => .d (.bool b)) else .no
    | _, _, _ => .no)
  fun md st => by
    split
    · rename_i C d' a' d'' n hi
      split
      · rename_i hc
        obtain ⟨⟨rfl, rfl⟩, hC⟩ := hc
        cases hb : PySem.W.kitOne K (.ref C) (.ref D) with
        | none => trivial
        | some b => exact ev_isX (sls_get (K := K) hi) (hk _ hC) hb
      · trivial
    · trivial
/-! instances -/
theorem lookup_map {f : Str} : ∀ {fs : List (Str × PyData)}, (fs.map fun p => (p.1, dat p.2)).lookup f = (fs.lookup f).map dat
  | [] => rfl
  | (g, d) :: fs => by
    rw [List.map_cons, List.lookup_cons, List.lookup_cons]
    cases f == g with
    | true => rfl
    | false => exact lookup_map
def XE.fld (C : Addr) (c : Cls K C) (f : Str) (hn : NoAttr K C f) (e : XE K) : XE K := .of (fun md => tFld K (e.te md) f)
  (fun st => (e.ev st).bind fun x => match x with
    | .i C' fs => if C' = C then Rs.of ((fs.lookup f).map Vl.d) else .no
    | _ => .no)
  fun md st => (e.ok md st).bind (fun C n W h => fun Q s q => h _ s q) fun x hx => by
    split
    · rename_i C' fs
      split
      · rename_i hc
        subst hc
        cases hl : fs.lookup f with
        | none => trivial
        | some d => exact ev_fld hx (by rw [lookup_map, hl]; rfl) c hn
      · trivial
    · trivial
def methT (md : Md) (C : Addr) (m : Str) (sp : Sp) (te : TE) (t : TA) : TE := match md with
  | .out E => tMeth C m sp [] E te t
  | .tr W => tMethSx C m sp (WE W) te t
  | .qu => tMeth C m sp [] (fun _ _ _ => False) te t
theorem meth_x {md : Md} {C : Addr} {m : Str} {sp : Sp} {te : TE} {t : TA} {ρ : List Sl} {W : WX} {D : Addr} {n : Int} (h : EvXg W te ρ D n) : EvXg W (methT md C m sp te t) ρ D n := by
  cases md with
  | out E => exact fun Q s q => h _ s q
  | tr W => exact fun Q s q => h _ s q
  | qu => exact fun Q s q => h _ s q
theorem meth_in {md : Md} {C : Addr} {m : Str} {sp : Sp} {te : TE} {t : TA} {ρ : List Sl} {W : WX} {D : Addr} {n : Int} {fs : List (Str × Rp)} (h0 : Ev te ρ (pu (insR C fs))) (hm : fs.lookup m = none) (h : EvXg W t ρ D n) : EvXg W (methT md C m sp te t) ρ D n := by
  cases md with
  | out E =>
    intro G σ L0 H Q s q
    refine h0.atp s fun G0 H0 v e0 s0 r0 => ?_
    obtain ⟨a, dx, fv, rfl, hH, hfl⟩ := id r0
    exact ⟨a, dx, fv, rfl, s0.same _ _ hH, hfl.no hm, h _ s0 fun G1 H1 d e1 s1 hd => q G1 H1 d (e0.trans e1) s1 hd⟩
  | tr W' =>
    intro G σ L0 H Q s q
    refine h0.atp s fun G0 H0 v e0 s0 r0 => ?_
    obtain ⟨a, dx, fv, rfl, hH, hfl⟩ := id r0
    exact ⟨a, dx, fv, rfl, s0.same _ _ hH, hfl.no hm, h _ s0 fun G1 H1 d e1 s1 hd => q G1 H1 d (e0.trans e1) s1 hd⟩
  | qu =>
    intro G σ L0 H Q s q
    refine h0.atp s fun G0 H0 v e0 s0 r0 => ?_
    obtain ⟨a, dx, fv, rfl, hH, hfl⟩ := id r0
    exact ⟨a, dx, fv, rfl, s0.same _ _ hH, hfl.no hm, h _ s0 fun G1 H1 d e1 s1 hd => q G1 H1 d (e0.trans e1) s1 hd⟩
/-- a method, as a function whose first argument is the object -/
theorem meth_args (F : Fn) (C : Addr) (m : Str) (te : TE) (as : XA K) (md : Md) (ρ : List Sl) (fs : List (Str × PyData)) (xs : List Av) (hl : xs.length + 1 = F.m) (h0 : Ev te ρ (pu (vr K (.i C fs)))) (hm : fs.lookup m = none) (h : EvA (as.ta md) ρ (xs.map (bw K))) :
    Cm md (methT md C m (F.sp K) te (as.ta md)) ρ (fun a => match F.own with
    | true => ∃ ds, a = .d (.list ds) ∧ EvN (methT md C m (F.sp K) te (as.ta md)) ρ ds
    | false => Ev (methT md C m (F.sp K) te (as.ta md)) ρ (pu (vr K a))) (match F.f (.v (.i C fs) :: xs), F.own with
    | .ok a, true => (match asL a with
      | some ds => .ok a
      | none => .no)
    | r, _ => r) := by
  have hm' : (fs.map fun p => (p.1, dat p.2)).lookup m = none := by rw [lookup_map, hm]; rfl
  have pre : ∀ {r : Rs Vl} {Q : VK} {E : XK} {G1 G0 : Hp} {L : List Cell} {H1 : Hp} {v : V} {vs : List V}, F.f (.v (.i C fs) :: xs) = r → r ≠ .no → (vr K (.i C fs)).p G0 v → Same G0 G1 → Lay G1 L H1 → AllB G1 L vs (xs.map (bw K)) → ResP Q E G1 L (resOf K F.own r) → F.sp K (v :: vs) H1 Q E := by
    intro r Q E G1 G0 L H1 v vs hr hn rv e1 la al rp
    refine ⟨⟨.v (.i C fs) :: xs, by rw [List.length_cons, hl]⟩, G1, L, by show F.f (.v (.i C fs) :: xs) ≠ .no; rw [hr]; exact hn, la, .cons ((vr K (.i C fs)).up e1 rv) al, ?_⟩
    show ResP Q E G1 L (resOf K F.own (F.f (.v (.i C fs) :: xs)))
    rw [hr]
    exact rp
  cases hf : F.f (.v (.i C fs) :: xs) with
  | no => simp only; trivial
  | ex D n =>
    simp only
    intro l W w
    cases md with
    | qu => cases l
    | out E =>
      subst w
      intro G σ L0 H Q s q
      refine h0.atp s fun G0 H0 v e0 s0 r0 => ?_
      obtain ⟨a, dx, fv, rfl, hH, hfl⟩ := id r0
      refine ⟨a, dx, fv, rfl, s0.same _ _ hH, hfl.no hm', h.at s0 fun G1 H1 vs L e1 sl la r => ?_⟩
      rw [List.append_nil]
      exact pre hf (fun z => nomatch z) r0 e1 la r fun G2 H2 d e2 l2 hd => q G2 H2 d ((e0.trans e1).trans e2) ⟨L, sl.up e2, l2⟩ hd
    | tr W' =>
      subst w
      intro G σ L0 H Q s q
      refine h0.atp s fun G0 H0 v e0 s0 r0 => ?_
      obtain ⟨a, dx, fv, rfl, hH, hfl⟩ := id r0
      refine ⟨a, dx, fv, rfl, s0.same _ _ hH, hfl.no hm', h.at s0 fun G1 H1 vs L e1 sl la r => ?_⟩
      exact pre hf (fun z => nomatch z) r0 e1 la r fun G2 H2 d e2 l2 hd => q G2 H2 d ((e0.trans e1).trans e2) ⟨L, sl.up e2, l2⟩ hd
  | ok a =>
    cases ho : F.own with
    | false =>
      simp only
      have rp : ∀ {Q : VK} {E : XK} {G1 : Hp} {L : List Cell}, (∀ G' H' v, Same G1 G' → Lay G' L H' → (vr K a).p G' v → Q v H') → ResP Q E G1 L (resOf K F.own (.ok a)) := fun {Q E G1 L} q => by
        rw [ho]
        exact q
      refine Ev.pure fun {G σ L0 H} Q s q => ?_
      cases md with
      | out E =>
        refine h0.atp s fun G0 H0 v e0 s0 r0 => ?_
        obtain ⟨b, dx, fv, rfl, hH, hfl⟩ := id r0
        refine ⟨b, dx, fv, rfl, s0.same _ _ hH, hfl.no hm', h.at s0 fun G1 H1 vs L e1 sl la r => ?_⟩
        rw [List.append_nil]
        exact pre hf (fun z => nomatch z) r0 e1 la r (rp fun G2 H2 v e2 l2 rv => q G2 H2 v ((e0.trans e1).trans e2) ⟨L, sl.up e2, l2⟩ rv)
      | qu =>
        refine h0.atp s fun G0 H0 v e0 s0 r0 => ?_
        obtain ⟨b, dx, fv, rfl, hH, hfl⟩ := id r0
        refine ⟨b, dx, fv, rfl, s0.same _ _ hH, hfl.no hm', h.at s0 fun G1 H1 vs L e1 sl la r => ?_⟩
        rw [List.append_nil]
        exact pre hf (fun z => nomatch z) r0 e1 la r (rp fun G2 H2 v e2 l2 rv => q G2 H2 v ((e0.trans e1).trans e2) ⟨L, sl.up e2, l2⟩ rv)
      | tr W' =>
        refine h0.atp s fun G0 H0 v e0 s0 r0 => ?_
        obtain ⟨b, dx, fv, rfl, hH, hfl⟩ := id r0
        refine ⟨b, dx, fv, rfl, s0.same _ _ hH, hfl.no hm', h.at s0 fun G1 H1 vs L e1 sl la r => ?_⟩
        exact pre hf (fun z => nomatch z) r0 e1 la r (rp fun G2 H2 v e2 l2 rv => q G2 H2 v ((e0.trans e1).trans e2) ⟨L, sl.up e2, l2⟩ rv)
    | true =>
      simp only
      cases hl2 : asL a with
      | none => simp only; trivial
      | some ds =>
        simp only
        have hR : resOf K F.own (.ok a) = .own (oL ds) := by rw [ho]; unfold resOf; simp only [hl2]
        have rp : ∀ {Q : VK} {E : XK} {G1 : Hp} {L : List Cell}, (∀ G2 H2 b cs, Same G1 G2 → Lay G2 (cs ++ L) H2 → (oL ds).p G2 b cs → Q (.ref b) H2) → ResP Q E G1 L (resOf K F.own (.ok a)) := fun {Q E G1 L} q => by
          rw [hR]
          exact q
        refine ⟨ds, ?_, ⟨fun {G σ L0 H} Q s q => ?_⟩⟩
        · cases a with
          | s _ => cases hl2
          | i _ _ => cases hl2
          | d x => cases x with
            | list es => cases hl2; rfl
            | _ => cases hl2
        · have fin : ∀ {G0 H0 G1 H1 : Hp} {L : List Cell}, Same G G0 → Same G0 G1 → Slots G1 L0 σ ρ L → Lay G1 (L ++ L0) H1 → ∀ G2 H2 b cs, Same G1 G2 → Lay G2 (cs ++ (L ++ L0)) H2 → (oL ds).p G2 b cs → Q (.ref b) H2 := by
            intro G0 H0 G1 H1 L e0 e1 sl la G2 H2 b cs e2 l2 ro
            obtain ⟨ws, hcs, d⟩ := ro
            subst hcs
            obtain ⟨H3, hn3, rfl, l3⟩ := Lay.uncell l2
            exact q G2 H3 _ ws ((e0.trans e1).trans e2) ⟨L, sl.up e2, l3⟩ hn3 d
          cases md with
          | out E =>
            refine h0.atp s fun G0 H0 v e0 s0 r0 => ?_
            obtain ⟨b, dx, fv, rfl, hH, hfl⟩ := id r0
            refine ⟨b, dx, fv, rfl, s0.same _ _ hH, hfl.no hm', h.at s0 fun G1 H1 vs L e1 sl la r => ?_⟩
            rw [List.append_nil]
            exact pre hf (fun z => nomatch z) r0 e1 la r (rp (fin (H0 := H0) e0 e1 sl la))
          | qu =>
            refine h0.atp s fun G0 H0 v e0 s0 r0 => ?_
            obtain ⟨b, dx, fv, rfl, hH, hfl⟩ := id r0
            refine ⟨b, dx, fv, rfl, s0.same _ _ hH, hfl.no hm', h.at s0 fun G1 H1 vs L e1 sl la r => ?_⟩
            rw [List.append_nil]
            exact pre hf (fun z => nomatch z) r0 e1 la r (rp (fin (H0 := H0) e0 e1 sl la))
          | tr W' =>
            refine h0.atp s fun G0 H0 v e0 s0 r0 => ?_
            obtain ⟨b, dx, fv, rfl, hH, hfl⟩ := id r0
            refine ⟨b, dx, fv, rfl, s0.same _ _ hH, hfl.no hm', h.at s0 fun G1 H1 vs L e1 sl la r => ?_⟩
            exact pre hf (fun z => nomatch z) r0 e1 la r (rp (fin (H0 := H0) e0 e1 sl la))
def instOf (C : Addr) (m : Str) : Vl → Rs (List (Str × PyData))
  | .i C' fs => if C' = C ∧ (fs.lookup m).isNone = true then .ok fs else .no
  | _ => .no
theorem instOf_ok {C : Addr} {m : Str} {v : Vl} {fs : List (Str × PyData)} (h : instOf C m v = .ok fs) : v = .i C fs ∧ fs.lookup m = none := by
  unfold instOf at h
  split at h
  · split at h
    · rename_i hc
      cases h
      exact ⟨by rw [hc.1], Option.isNone_iff_eq_none.mp hc.2⟩
    · cases h
  · cases h
theorem instOf_ex {C D : Addr} {m : Str} {v : Vl} {n : Int} : instOf C m v ≠ .ex D n := by
  unfold instOf
  split
  · split
    · exact fun z => nomatch z
    · exact fun z => nomatch z
  · exact fun z => nomatch z
def XE.meth (C : Addr) (m : Str) (F : Fn) (ho : F.own = false) (e : XE K) (as : XA K) : XE K := .of (fun md => methT md C m (F.sp K) (e.te md) (as.ta md))
  (fun st => (e.ev st).bind fun v => (instOf C m v).bind fun fs => (as.ev st).bind fun xs => if xs.length + 1 = F.m then F.f (.v (.i C fs) :: xs) else .no)
  fun md st => (e.ok md st).bind (fun C n W h => meth_x h) fun v hv => by
    cases hi : instOf C m v with
    | no => trivial
    | ex D n => exact absurd hi instOf_ex
    | ok fs =>
      obtain ⟨rfl, hm⟩ := instOf_ok hi
      refine (as.ok md st).bind (fun D n W h => meth_in hv (by rw [lookup_map, hm]; rfl) h) fun xs hx => ?_
      by_cases hl : xs.length + 1 = F.m
      · rw [if_pos hl]
        have := meth_args F C m (e.te md) as md (sls K st) fs xs hl hv hm hx
        rw [ho] at this
        cases hf : F.f (.v (.i C fs) :: xs) with
        | no => trivial
        | ex C n => rw [hf] at this; exact this
        | ok a => rw [hf] at this; exact this
      · rw [if_neg hl]; trivial
def XN.meth (C : Addr) (m : Str) (F : Fn) (ho : F.own = true) (e : XE K) (as : XA K) : XN K where
  te := fun md => methT md C m (F.sp K) (e.te md) (as.ta md)
  ev := fun st => (e.ev st).bind fun v => (instOf C m v).bind fun fs => (as.ev st).bind fun xs => if xs.length + 1 = F.m then (F.f (.v (.i C fs) :: xs)).bind lOf else .no
  ok := fun md st => (e.ok md st).bind (fun C n W h => meth_x h) fun v hv => by
    cases hi : instOf C m v with
    | no => trivial
    | ex D n => exact absurd hi instOf_ex
    | ok fs =>
      obtain ⟨rfl, hm⟩ := instOf_ok hi
      refine (as.ok md st).bind (fun D n W h => meth_in hv (by rw [lookup_map, hm]; rfl) h) fun xs hx => ?_
      by_cases hl : xs.length + 1 = F.m
      · rw [if_pos hl]
        have := meth_args F C m (e.te md) as md (sls K st) fs xs hl hv hm hx
        rw [ho] at this
        cases hf : F.f (.v (.i C fs) :: xs) with
        | no => trivial
        | ex C n => rw [hf] at this; exact this
        | ok a =>
          rw [hf] at this
          show Cm _ _ _ _ (lOf a)
          cases a with
          | s _ => trivial
          | i _ _ => trivial
          | d x =>
            cases x with
            | list ds =>
              obtain ⟨ds', e, h'⟩ := this
              cases e
              exact h'
            | _ => trivial
      · rw [if_neg hl]; trivial
end
end R

set_option Elab.async false
set_option linter.all false
set_option maxRecDepth 100000
set_option maxHeartbeats 2000000
namespace R
open PySem PySem.Spec PyProof.Rows L2 Z
/-! making an object -/
structure FnI where
  m : Nat
  f : List Av → Rs (List (Str × PyData))
def datF (fs : List (Str × PyData)) : List (Str × Rp) := fs.map fun p => (p.1, dat p.2)
def iresOf : Rs (List (Str × PyData)) → IRes
  | .ok fs => .ok (datF fs)
  | .ex D n => .err D n
  | .no => .ok []
def FnI.sp (K : PySem.W.Frag) (C : Addr) (F : FnI) : Sp := SpI (α := {xs : List Av // xs.length = F.m}) C (fun x => F.f x.1 ≠ .no) (fun x => x.1.map (bw K)) (fun x => iresOf (F.f x.1))
def makeT (md : Md) (C : Addr) (sp : Sp) (t : TA) : TE := match md with
  | .out E => tMake C sp [] E t
  | .tr W => tMakeS C sp (WE W) t
  | .qu => tMake C sp [] (fun _ _ _ => False) t
section
variable {K : PySem.W.Frag}
def XE.make (C : Addr) (F : FnI) (as : XA K) : XE K := .of (fun md => makeT md C (F.sp K C) (as.ta md))
  (fun st => (as.ev st).bind fun xs => if xs.length = F.m then (F.f xs).bind fun fs => .ok (.i C fs) else .no)
  fun md st => (as.ok md st).bind (fun C n W h => by
    cases md with
    | out E => exact fun Q s q => h _ s q
    | tr W => exact fun Q s q => h _ s q
    | qu => exact fun Q s q => h _ s q) fun xs h => by
    by_cases hm : xs.length = F.m
    · rw [if_pos hm]
      cases hf : F.f xs with
      | no => trivial
      | ex D n =>
        intro l W w
        have hR : iresOf (F.f (⟨xs, hm⟩ : {xs : List Av // xs.length = F.m}).1) = .err D n := by show iresOf (F.f xs) = _; rw [hf]; rfl
        have hp : F.f (⟨xs, hm⟩ : {xs : List Av // xs.length = F.m}).1 ≠ .no := by show F.f xs ≠ _; rw [hf]; exact fun z => nomatch z
        cases md with
        | qu => cases l
        | out E =>
          subst w
          exact fun {G σ L0 H} Q s q => (ex_make (α := {xs : List Av // xs.length = F.m}) (pre := fun x => F.f x.1 ≠ .no) (A := fun x => x.1.map (bw K)) (F := fun x => iresOf (F.f x.1)) ⟨xs, hm⟩ h hp hR).run Q s q
        | tr W' =>
          subst w
          exact fun {G σ L0 H} Q s q => (ex_makeS (α := {xs : List Av // xs.length = F.m}) (pre := fun x => F.f x.1 ≠ .no) (A := fun x => x.1.map (bw K)) (F := fun x => iresOf (F.f x.1)) ⟨xs, hm⟩ h hp hR).run Q s q
      | ok fs =>
        have hR : iresOf (F.f (⟨xs, hm⟩ : {xs : List Av // xs.length = F.m}).1) = .ok (datF fs) := by show iresOf (F.f xs) = _; rw [hf]; rfl
        have hp : F.f (⟨xs, hm⟩ : {xs : List Av // xs.length = F.m}).1 ≠ .no := by show F.f xs ≠ _; rw [hf]; exact fun z => nomatch z
        cases md with
        | out E => exact ev_make (α := {xs : List Av // xs.length = F.m}) (pre := fun x => F.f x.1 ≠ .no) (A := fun x => x.1.map (bw K)) (F := fun x => iresOf (F.f x.1)) ⟨xs, hm⟩ h hp hR
        | tr W' => exact ev_makeS (α := {xs : List Av // xs.length = F.m}) (pre := fun x => F.f x.1 ≠ .no) (A := fun x => x.1.map (bw K)) (F := fun x => iresOf (F.f x.1)) ⟨xs, hm⟩ h hp hR
        | qu => exact ev_make (α := {xs : List Av // xs.length = F.m}) (pre := fun x => F.f x.1 ≠ .no) (A := fun x => x.1.map (bw K)) (F := fun x => iresOf (F.f x.1)) ⟨xs, hm⟩ h hp hR
    · rw [if_neg hm]; trivial
def XS.setfld (i : Nat) (C : Addr) (c : Cls K C) (f : Str) (hn : NoAttr K C f) (e : XE K) : XS K where
  ts := fun md => sFld K (tVar i) (e.te md) f
  ev := fun st => match st[i]? with
    | some (.oi C' a fs) => if C' = C ∧ (fs.lookup f).isNone = true ∧ fs.length < 1000 then (e.ev st).oc st fun v => match v with
      | .d d => .nx (st.set i (.oi C a (fs ++ [(f, d)])))
      | _ => .no else .no
    | _ => .no
  ok := fun md W st w => by
    split
    · rename_i C' a fs hi
      split
      · rename_i hc
        obtain ⟨rfl, h1, h2⟩ := hc
        refine oc_ok w (e.ok md st) (fun D n h => ⟨fun D s q => h _ s fun G' H' d e s' hd => q G' _ H' d e s' hd⟩) fun v hv => ?_
        split
        · rename_i d
          show Ex _ _ _ (.nx (sls K (st.set i (.oi C' a (fs ++ [(f, d)])))))
          rw [sls_set]
          have := Ex.setfld (W := W) (fs := datF fs) (sls_get (K := K) hi) hv (by unfold datF; rw [lookup_map, Option.isNone_iff_eq_none.mp h1]; rfl) (by unfold datF; rw [List.length_map]; exact h2) c hn
          have e2 : sl K (.oi C' a (fs ++ [(f, d)])) = .o (oI C' a (datF fs ++ [(f, dat d)])) := by
            show Sl.o (oI C' a ((fs ++ [(f, d)]).map _)) = _
            rw [List.map_append]
            rfl
          rw [e2]
          exact this
        · trivial
      · trivial
    · trivial
/-! a function's start -/
def avS : Av → Sv
  | .v a => .v a
  | .l ds => .bl ds
def start (xs : List Av) (k : Nat) : List Sv := xs.map avS ++ List.replicate k .x
theorem slots_b {G : Hp} {L0 : List Cell} {k : Nat} : ∀ {xs : List Av} {σ : L2.St} {L : List Cell}, Slots G L0 σ (st0 (xs.map (bw K)) k) L → Slots G L0 σ (sls K (start xs k)) L
  | [], σ, L, h => by
    have e : sls K (start [] k) = st0 (([] : List Av).map (bw K)) k := by
      unfold sls start st0
      simp [sl]
    rw [e]
    exact h
  | .v a :: xs, σ, L, h => by
    have h : Slots G L0 σ (Sl.b (pu (vr K a)) :: st0 (xs.map (bw K)) k) L := h
    show Slots G L0 σ (Sl.p (vr K a) :: sls K (start xs k)) L
    cases h with
    | b h1 h2 => exact .p h1 (slots_b h2)
  | .l ds :: xs, σ, L, h => by
    have h : Slots G L0 σ (Sl.b (bL ds) :: st0 (xs.map (bw K)) k) L := h
    show Slots G L0 σ (Sl.b (bL ds) :: sls K (start xs k)) L
    cases h with
    | b h1 h2 => exact .b h1 (slots_b h2)
theorem ex_start {t : TS} {W : WX} {o : Out} {xs : List Av} {k : Nat} (h : Ex W t (sls K (start xs k)) o) : Ex W t (st0 (xs.map (bw K)) k) o := ⟨fun D s q => by
  obtain ⟨L, sl, la⟩ := s
  exact h.run D ⟨L, slots_b sl, la⟩ q⟩
def Oc.res (own : Bool) : Oc → Rs Vl
  | .rt v => if own then .no else .ok v
  | .ro ds => if own then .ok (.d (.list ds)) else .no
  | .nx _ => if own then .no else .ok (.d .none)
  | .xc _ C n => .ex C n
  | _ => .no
def runX (s : XS K) (own : Bool) (k : Nat) (xs : List Av) : Rs Vl := (s.ev (start xs k)).res own
theorem Fn.run {F : Fn} {vs : List V} {H : Hp} {Q : VK} {E : XK} (s : XS K) (N : List Str) (h : F.sp K vs H Q E) (hs : ∀ xs : List Av, xs.length = F.m → F.f xs ≠ .no → runX s F.own (N.length - F.m) xs = F.f xs) :
    s.ts (.out E) { nx := fun _ H' => Q .non H', rt := Q } (L2.start N vs) H := by
  refine SpA.goN h N F.m (fun x => by rw [List.length_map]; exact x.2) fun x hp => ?_
  have hx := hs x.1 x.2 hp
  have hk := s.ok (.out E) (WofE E) (start x.1 (N.length - F.m)) rfl
  unfold runX at hx
  cases he : s.ev (start x.1 (N.length - F.m)) with
  | no => rw [he] at hx; exact absurd hx.symm hp
  | bk _ => rw [he] at hx; exact absurd hx.symm hp
  | ct _ => rw [he] at hx; exact absurd hx.symm hp
  | nx st =>
    rw [he] at hx hk
    cases ho : F.own with
    | true => rw [ho] at hx; exact absurd hx.symm hp
    | false =>
      rw [ho] at hx
      refine .inl ⟨_, ?_, ex_start hk⟩
      show resOf K _ (F.f x.1) = _
      rw [← hx]
      rfl
  | rt a =>
    rw [he] at hx hk
    cases ho : F.own with
    | true => rw [ho] at hx; exact absurd hx.symm hp
    | false =>
      rw [ho] at hx
      refine .inr ⟨.ok (vr K a), [], ?_, ex_start hk⟩
      show resOf K _ (F.f x.1) = _
      rw [← hx]
      rfl
  | ro ds =>
    rw [he] at hx hk
    cases ho : F.own with
    | false => rw [ho] at hx; exact absurd hx.symm hp
    | true =>
      rw [ho] at hx
      refine .inr ⟨.own (oL ds), [], ?_, ex_start hk⟩
      show resOf K _ (F.f x.1) = _
      rw [← hx]
      rfl
  | xc st C n =>
    rw [he] at hx hk
    refine .inr ⟨.err C n, _, ?_, ex_start (hk rfl)⟩
    show resOf K F.own (F.f x.1) = _
    rw [← hx]
    rfl
def startI (C a : Addr) (xs : List Av) (k : Nat) : List Sv := .oi C a [] :: start xs k
def Oc.resI (C a : Addr) : Oc → Rs (List (Str × PyData))
  | .nx st => match st[(0 : Nat)]? with
    | some (.oi C' a' fs) => if C' = C ∧ a' = a then .ok fs else .no
    | _ => .no
  | .xc _ D n => .ex D n
  | _ => .no
def runI (s : XS K) (C a : Addr) (k : Nat) (xs : List Av) : Rs (List (Str × PyData)) := (s.ev (startI C a xs k)).resI C a
theorem ex_startI {t : TS} {W : WX} {o : Out} {C a : Addr} {xs : List Av} {k : Nat} (h : Ex W t (sls K (startI C a xs k)) o) : Ex W t (stI C a (xs.map (bw K)) k) o := ⟨fun D s q => by
  obtain ⟨L, sl, la⟩ := s
  have sl : Slots _ _ _ (Sl.o (oI C a []) :: st0 (xs.map (bw K)) k) L := sl
  cases sl with
  | o h1 h2 => exact h.run D ⟨_, .o h1 (slots_b h2), la⟩ q⟩
theorem FnI.run {F : FnI} {C : Addr} {vs : List V} {H : Hp} {Q : VK} {E : XK} (s : XS K) (N : List Str) (h : F.sp K C vs H Q E) (hs : ∀ xs : List Av, xs.length = F.m → F.f xs ≠ .no → ∀ a, runI s C a (N.length - (F.m + 1)) xs = F.f xs) :
    s.ts (.out E) { nx := fun _ H' => Q .non H', rt := Q } (L2.start N vs) H := by
  refine SpI.run (N := N) h (fun x => by rw [List.length_map]; exact x.2) fun x a hp => ?_
  have hx := hs x.1 x.2 hp a
  have hk := s.ok (.out E) (WofE E) (startI C a x.1 (N.length - (F.m + 1))) rfl
  unfold runI at hx
  cases he : s.ev (startI C a x.1 (N.length - (F.m + 1))) with
  | no => rw [he] at hx; exact absurd hx.symm hp
  | bk _ => rw [he] at hx; exact absurd hx.symm hp
  | ct _ => rw [he] at hx; exact absurd hx.symm hp
  | rt _ => rw [he] at hx; exact absurd hx.symm hp
  | ro _ => rw [he] at hx; exact absurd hx.symm hp
  | xc st D n =>
    rw [he] at hx hk
    refine .inr ⟨D, n, _, ?_, ex_startI (hk rfl)⟩
    show iresOf (F.f x.1) = _
    rw [← hx]
    rfl
  | nx st =>
    rw [he] at hx hk
    have hx2 : (match st[(0 : Nat)]? with
      | some (.oi C' a' fs) => if C' = C ∧ a' = a then Rs.ok fs else .no
      | _ => .no) = F.f x.1 := hx
    cases hst : st[(0 : Nat)]? with
    | none => rw [hst] at hx2; exact absurd hx2.symm hp
    | some sv =>
      rw [hst] at hx2
      cases sv with
      | oi C' a' fs =>
        simp only at hx2
        by_cases hc : C' = C ∧ a' = a
        · rw [if_pos hc] at hx2
          obtain ⟨rfl, rfl⟩ := hc
          refine .inl ⟨datF fs, _, ?_, sls_get (K := K) hst, ex_startI hk⟩
          show iresOf (F.f x.1) = _
          rw [← hx2]
          rfl
        · rw [if_neg hc] at hx2; exact absurd hx2.symm hp
      | _ => exact absurd hx2.symm hp
end
end R

set_option Elab.async false
set_option linter.all false
set_option maxRecDepth 100000
set_option maxHeartbeats 2000000
namespace R
open PySem PySem.Spec PyProof.Rows L2 Z
section
variable {K : PySem.W.Frag}
/-! operators of ints -/
def O2.int0 (g : Int → Int → Int) : O2 K where
  r := rI0 fun i j => .int (g i j)
  ka := false
  kb := false
  f := fun x y => match x, y with
    | .v (.d (.int i)), .v (.d (.int j)) => some (.d (.int (g i j)))
    | _, _ => none
  ok := fun x y z h => by
    split at h
    · cases h; exact o_int0
    · cases h
def O2.bool0 (g : Int → Int → Bool) : O2 K where
  r := rI0 fun i j => .bl (g i j)
  ka := false
  kb := false
  f := fun x y => match x, y with
    | .v (.d (.int i)), .v (.d (.int j)) => some (.d (.bool (g i j)))
    | _, _ => none
  ok := fun x y z h => by
    split at h
    · cases h; exact o_bool0
    · cases h
def O2.intC (C : Int → Int → Prop) [∀ i j, Decidable (C i j)] (g : Int → Int → Int) : O2 K where
  r := rI C fun i j => .int (g i j)
  ka := false
  kb := false
  f := fun x y => match x, y with
    | .v (.d (.int i)), .v (.d (.int j)) => if C i j then some (.d (.int (g i j))) else none
    | _, _ => none
  ok := fun x y z h => by
    split at h
    · split at h
      · cases h; exact o_intC (by assumption)
      · cases h
    · cases h
def O2.add : O2 K := .int0 fun i j => i + j
def O2.sub : O2 K := .int0 fun i j => i - j
def O2.lt : O2 K := .bool0 fun i j => decide (i < j)
def O2.le : O2 K := .bool0 fun i j => decide (i ≤ j)
def O2.gt : O2 K := .bool0 fun i j => decide (j < i)
def O2.ge : O2 K := .bool0 fun i j => decide (j ≤ i)
instance (i j : Int) : Decidable (CMul i j) := by unfold CMul; exact inferInstance
instance (i j : Int) : Decidable (CMulW i j) := by unfold CMulW; exact inferInstance
instance (i j : Int) : Decidable (CDivW i j) := by unfold CDivW; exact inferInstance
instance (i j : Int) : Decidable (CPow i j) := by unfold CPow; exact inferInstance
/-- of bounded size, or one of them small -/
def CMulU (i j : Int) : Prop := i.natAbs < 18446744073709551616 ∨ j.natAbs < 18446744073709551616 ∨ CMulW i j
instance (i j : Int) : Decidable (CMulU i j) := by unfold CMulU; exact inferInstance
theorem CMulU.ok {i j : Int} (h : CMulU i j) : IntMulOk i j := by
  rcases h with h | h | h
  · exact CMul.ok (.inl ⟨by omega, by omega⟩)
  · exact CMul.ok (.inr ⟨by omega, by omega⟩)
  · exact h.ok
theorem op_mulU {X : Cx} : OpR X (binaryOp .Mult) (rI CMulU fun i j => .int (i * j)) := opI fun _ _ _ _ _ _ _ hc q => mul_int q hc.ok
def O2.mul : O2 K := .intC CMulU fun i j => i * j
/-- // by a divisor of less than 9000 bits that is not 0 -/
def CDivU (_ j : Int) : Prop := j ≠ 0 ∧ j.natAbs.log2 < 9000
instance (i j : Int) : Decidable (CDivU i j) := by unfold CDivU; exact inferInstance
theorem op_fdivU {X : Cx} : OpR X (binaryOp .FloorDiv) (rI CDivU fun i j => .int (i.fdiv j)) := opI fun _ _ _ _ _ _ _ hc q => floordiv_int hc.1 q (.inl (PyProof.noPylong_of_log2 hc.2))
def O2.div : O2 K := .intC CDivW fun i j => i / j
def O2.divU : O2 K := .intC CDivU fun i j => i.fdiv j
def O2.mod : O2 K := .intC (fun _ j => 0 < j) fun i j => i % j
def O2.pow : O2 K := .intC CPow fun i j => i ^ j.toNat
def O2.shl : O2 K := .intC CPow fun i j => i * 2 ^ j.toNat
def O2.shr : O2 K := .intC (fun _ j => 0 ≤ j) fun i j => i / 2 ^ j.toNat
def O2.band : O2 K := .int0 fun i j => Builtin.bitAnd i j
/-! equality -/
def O2.eq : O2 K where
  r := rEq
  ka := false
  kb := false
  f := fun x y => match x, y with
    | .v (.d (.int i)), .v (.d (.int j)) => some (.d (.bool (decide (i = j))))
    | .v (.d (.str i)), .v (.d (.str j)) => some (.d (.bool (decide (i = j))))
    | _, _ => none
  ok := fun x y z h => by
    split at h
    · cases h; exact o_eqI
    · cases h; exact o_eqS
    · cases h
def O2.ne : O2 K where
  r := rNe
  ka := false
  kb := false
  f := fun x y => match x, y with
    | .v (.d (.int i)), .v (.d (.int j)) => some (.d (.bool (!decide (i = j))))
    | .v (.d (.str i)), .v (.d (.str j)) => some (.d (.bool (!decide (i = j))))
    | _, _ => none
  ok := fun x y z h => by
    split at h
    · cases h; exact o_neI
    · cases h; exact o_neS
    · cases h
def O2.eqD : O2 K where
  r := rEqD K
  ka := false
  kb := false
  f := fun x y => match x, y with
    | .v (.d a), .v (.d b) => if SeqAt.shaped a = true ∧ SeqAt.shaped b = true then some (.d (.bool (PyData.eqv a b))) else none
    | _, _ => none
  ok := fun x y z h => by
    split at h
    · split at h
      · rename_i hc
        cases h; exact o_eqD hc.1 hc.2
      · cases h
    · cases h
def O2.neD : O2 K where
  r := rNeD K
  ka := false
  kb := false
  f := fun x y => match x, y with
    | .v (.d a), .v (.d b) => if SeqAt.shaped a = true ∧ SeqAt.shaped b = true then some (.d (.bool (!PyData.eqv a b))) else none
    | _, _ => none
  ok := fun x y z h => by
    split at h
    · split at h
      · rename_i hc
        cases h; exact o_neD hc.1 hc.2
      · cases h
    · cases h
def O2.isN : O2 K where
  r := fun x y H Q => y = .non ∧ Q (.bl (decide (x = .non))) H
  ka := false
  kb := false
  f := fun x y => match x, y with
    | .v (.d a), .v (.d .none) => some (.d (.bool (isNone a)))
    | _, _ => none
  ok := fun x y z h => by
    split at h
    · cases h; exact o_isN
    · cases h
def O2.notN : O2 K where
  r := fun x y H Q => y = .non ∧ Q (.bl (!decide (x = .non))) H
  ka := false
  kb := false
  f := fun x y => match x, y with
    | .v (.d a), .v (.d .none) => some (.d (.bool (!isNone a)))
    | _, _ => none
  ok := fun x y z h => by
    split at h
    · cases h; exact o_notN
    · cases h
/-! places -/
def O2.ixL : O2 K where
  r := rIxL K
  ka := true
  kb := false
  f := fun x y => match x, y with
    | .l ds, .v (.d (.int i)) => (atI ds i).map Vl.d
    | _, _ => none
  ok := fun x y z h => by
    split at h
    · obtain ⟨d, h1, h2⟩ := Option.map_eq_some_iff.mp h
      cases h2
      exact o_ixL h1
    · cases h
def O2.ixS : O2 K where
  r := rIxL K
  ka := false
  kb := false
  f := fun x y => match x, y with
    | .v (.s xs), .v (.d (.int i)) => if 0 ≤ i then (xs[i.toNat]?).map fun n => .d (.int n) else none
    | _, _ => none
  ok := fun x y z h => by
    split at h
    · split at h
      · obtain ⟨d, h1, h2⟩ := Option.map_eq_some_iff.mp h
        cases h2
        exact o_ixS (by assumption) h1
      · cases h
    · cases h
def O2.ixT : O2 K where
  r := rIxT K
  ka := false
  kb := false
  f := fun x y => match x, y with
    | .v (.d (.tuple ds)), .v (.d (.int i)) => (atI ds i).map Vl.d
    | _, _ => none
  ok := fun x y z h => by
    split at h
    · obtain ⟨d, h1, h2⟩ := Option.map_eq_some_iff.mp h
      cases h2
      exact o_ixT h1
    · cases h
def intsOf : List PyData → Option (List Int)
  | [] => some []
  | .int n :: r => (intsOf r).map (n :: ·)
  | _ => none
theorem intsOf_some : ∀ {ds : List PyData} {ns : List Int}, intsOf ds = some ns → ds = ns.map .int
  | [], ns, h => by cases h; rfl
  | d :: r, ns, h => by
    cases d with
    | int n =>
      obtain ⟨ms, h1, h2⟩ := Option.map_eq_some_iff.mp (show (intsOf r).map (n :: ·) = some ns from h)
      subst h2
      rw [List.map_cons, intsOf_some h1]
    | _ => cases h
theorem intsOf_map : ∀ ns : List Int, intsOf (ns.map .int) = some ns
  | [] => rfl
  | n :: ns => by
    show (intsOf (ns.map .int)).map (n :: ·) = _
    rw [intsOf_map ns]
    rfl
def boolsOf : List PyData → Option (List Bool)
  | [] => some []
  | .bool n :: r => (boolsOf r).map (n :: ·)
  | _ => none
theorem boolsOf_some : ∀ {ds : List PyData} {ns : List Bool}, boolsOf ds = some ns → ds = ns.map .bool
  | [], ns, h => by cases h; rfl
  | d :: r, ns, h => by
    cases d with
    | bool n =>
      obtain ⟨ms, h1, h2⟩ := Option.map_eq_some_iff.mp (show (boolsOf r).map (n :: ·) = some ns from h)
      subst h2
      rw [List.map_cons, boolsOf_some h1]
    | _ => cases h
theorem boolsOf_map : ∀ ns : List Bool, boolsOf (ns.map .bool) = some ns
  | [] => rfl
  | n :: ns => by
    show (boolsOf (ns.map .bool)).map (n :: ·) = _
    rw [boolsOf_map ns]
    rfl
def O2.inL : O2 K where
  r := rIn K false
  ka := false
  kb := true
  f := fun x y => match x, y with
    | .v (.d (.int n)), .l ds => (intsOf ds).map fun ns => .d (.bool (decide (n ∈ ns)))
    | _, _ => none
  ok := fun x y z h => by
    split at h
    · obtain ⟨ns, h1, h2⟩ := Option.map_eq_some_iff.mp h
      cases h2
      rw [intsOf_some h1]
      exact o_inL
    · cases h
def O2.notInL : O2 K where
  r := rIn K true
  ka := false
  kb := true
  f := fun x y => match x, y with
    | .v (.d (.int n)), .l ds => (intsOf ds).map fun ns => .d (.bool (!decide (n ∈ ns)))
    | _, _ => none
  ok := fun x y z h => by
    split at h
    · obtain ⟨ns, h1, h2⟩ := Option.map_eq_some_iff.mp h
      cases h2
      rw [intsOf_some h1]
      exact o_notInL
    · cases h
/-! lists put together -/
def O2N.cat : O2N K where
  r := rCat
  ka := true
  kb := true
  f := fun x y => match x, y with
    | .l ds, .l es => if ds.length + es.length ≤ 1000000 then some (ds ++ es) else none
    | _, _ => none
  ok := fun x y z h => by
    split at h
    · split at h
      · cases h; exact o_cat (by assumption)
      · cases h
    · cases h
def O2N.rep : O2N K where
  r := rRep
  ka := true
  kb := false
  f := fun x y => match x, y with
    | .l ds, .v (.d (.int k)) => if ds.length * k.toNat ≤ 1000000 ∧ k.natAbs < 9223372036854775808 then some (List.replicate k.toNat ds).flatten else none
    | _, _ => none
  ok := fun x y z h => by
    split at h
    · split at h
      · rename_i hc
        cases h; exact o_rep hc.1 (by omega) (by omega)
      · cases h
    · cases h
/-! builtins -/
def Bi.len : Bi K where
  r := cLen K
  f := fun as => match as with
    | [.l ds] => some (.d (.int ds.length))
    | [.v (.s xs)] => some (.d (.int xs.length))
    | _ => none
  ok := fun as z h => by
    split at h
    · cases h; exact cl_len
    · cases h; exact cl_lenS
    · cases h
def Bi.abs : Bi K where
  r := cAbs
  f := fun as => match as with
    | [.v (.d (.int n))] => some (.d (.int (if n < 0 then -n else n)))
    | _ => none
  ok := fun as z h => by
    split at h
    · cases h; exact cl_abs
    · cases h
def Bi.min2 : Bi K where
  r := cMin2
  f := fun as => match as with
    | [.v (.d (.int m)), .v (.d (.int n))] => some (.d (.int (if n < m then n else m)))
    | _ => none
  ok := fun as z h => by
    split at h
    · cases h; exact cl_min2
    · cases h
def Bi.max2 : Bi K where
  r := cMax2
  f := fun as => match as with
    | [.v (.d (.int m)), .v (.d (.int n))] => some (.d (.int (if n > m then n else m)))
    | _ => none
  ok := fun as z h => by
    split at h
    · cases h; exact cl_max2
    · cases h
def Bi.int : Bi K where
  r := cInt
  f := fun as => match as with
    | [.v (.d (.int n))] => some (.d (.int n))
    | [.v (.d (.bool b))] => some (.d (.int (if b then 1 else 0)))
    | _ => none
  ok := fun as z h => by
    split at h
    · cases h; exact cl_int
    · cases h; exact cl_intB
    · cases h
def Bi.sum : Bi K where
  r := rSum K
  f := fun as => match as with
    | [.l ds] => (intsOf ds).map fun ns => .d (.int ns.sum)
    | _ => none
  ok := fun as z h => by
    split at h
    · obtain ⟨ns, h1, h2⟩ := Option.map_eq_some_iff.mp h
      cases h2
      rw [intsOf_some h1]
      exact cl_sum
    · cases h
def Bi.any : Bi K where
  r := rAny K
  f := fun as => match as with
    | [.l ds] => (boolsOf ds).map fun ns => .d (.bool (ns.any id))
    | _ => none
  ok := fun as z h => by
    split at h
    · obtain ⟨ns, h1, h2⟩ := Option.map_eq_some_iff.mp h
      cases h2
      rw [boolsOf_some h1]
      exact cl_any
    · cases h
def Bi.all : Bi K where
  r := rAll K
  f := fun as => match as with
    | [.l ds] => (boolsOf ds).map fun ns => .d (.bool (ns.all id))
    | _ => none
  ok := fun as z h => by
    split at h
    · obtain ⟨ns, h1, h2⟩ := Option.map_eq_some_iff.mp h
      cases h2
      rw [boolsOf_some h1]
      exact cl_all
    · cases h
def BiN.list : BiN K where
  r := cList K
  f := fun as => match as with
    | [.l ds] => some ds
    | _ => none
  ok := fun as z h => by
    split at h
    · cases h; exact cl_list
    · cases h
def Bi.gcd : Bi K where
  r := rGcd
  f := fun as => match as with
    | [.v (.d (.int a)), .v (.d (.int b))] => some (.d (.int ((Nat.gcd a.natAbs b.natAbs : Nat) : Int)))
    | _ => none
  ok := fun as z h => by
    split at h
    · cases h
      exact fun G H L vs Q l r q => by
        cases r with
        | cons h1 t =>
          cases t with
          | cons h2 t =>
            cases t; cases h1; cases h2
            exact ⟨_, _, rfl, q _ (Dq.int _)⟩
    · cases h
def rLcm : List V → Hp → VK → Prop := fun vs H Q => ∃ a b : Int, vs = [.int a, .int b] ∧ (a.natAbs.log2 < 9000 ∧ b.natAbs.log2 < 9000) ∧ Q (.int ((Nat.lcm a.natAbs b.natAbs : Nat) : Int)) H
theorem log_pow {n k : Nat} (h : n.log2 < k) : n < 2 ^ k := by
  by_cases z : n = 0
  · rw [z]; exact Nat.two_pow_pos k
  · exact (Nat.log2_lt z).mp h
theorem cr_lcm {X : Cx} : CallR X (.builtin "math.lcm") rLcm := by
  intro pins s σ H vs us Q I r h
  obtain ⟨a, b, rfl, ⟨ha, hb⟩, q⟩ := h
  obtain ⟨t, u, rfl⟩ := Vals.int2 r
  have e : Nat.lcm 1 a.natAbs = a.natAbs := by simp [Nat.lcm]
  have h1 : (max 1 a.natAbs).log2 < 9000 := by
    rcases Nat.le_total 1 a.natAbs with z | z
    · rw [Nat.max_eq_right z]; exact ha
    · rw [Nat.max_eq_left z]; decide
  have h2 : (max a.natAbs b.natAbs).log2 < 9000 := by
    rcases Nat.le_total a.natAbs b.natAbs with z | z
    · rw [Nat.max_eq_right z]; exact hb
    · rw [Nat.max_eq_left z]; exact ha
  have hl : (a.natAbs.lcm b.natAbs) < 2 ^ (18000 + 1) := by
    have := PySem.W.mc_lcm_le a.natAbs b.natAbs
    refine Nat.lt_of_le_of_lt this ?_
    have := Nat.mul_lt_mul'' (log_pow ha) (log_pow hb)
    rw [← Nat.pow_add] at this
    exact Nat.lt_of_lt_of_le this (Nat.pow_le_pow_right (by decide) (by decide))
  have hsz : ((((Nat.lcm 1 a.natAbs).lcm b.natAbs : Nat) : Int)).natAbs.log2 < bitsLine := by
    rw [e, Int.natAbs_natCast]
    have := PySem.W.mg_log hl
    have e2 : bitsLine = 134217728 := by decide
    omega
  have g := (PySem.W.mg_run_lcm a t b u (by omega) (by omega) hsz).meets
  exact call_function_meets PySem.W.MGF.kind_lcm PySem.W.MGF.plain_lcm PySem.W.MGF.entry_lcm (PySem.W.MGF.args_lcm _ _) g (by rw [e]; exact ⟨.int _, H, I.tok _, ⟨_, rfl⟩, q⟩)
def Bi.lcm : Bi K where
  r := rLcm
  f := fun as => match as with
    | [.v (.d (.int a)), .v (.d (.int b))] => if a.natAbs.log2 < 9000 ∧ b.natAbs.log2 < 9000 then some (.d (.int ((Nat.lcm a.natAbs b.natAbs : Nat) : Int))) else none
    | _ => none
  ok := fun as z h => by
    split at h
    · split at h
      · rename_i hc
        cases h
        exact fun G H L vs Q l r q => by
          cases r with
          | cons h1 t =>
            cases t with
            | cons h2 t =>
              cases t; cases h1; cases h2
              exact ⟨_, _, rfl, hc, q _ (Dq.int _)⟩
      · cases h
    · cases h
/-! a part of the script -/
theorem cut_ints {xs : List Int} {lo hi : Option Int} {G : Hp} : DqAll G (cutV (xs.map V.int) lo hi) (cutD (xs.map PyData.int) lo hi) := cut_all (dpAll_of_ints xs) lo hi
def XN.slS (e : XE K) (lo hi : XO K) : XN K where
  te := fun md => tSl (rSlL K) (e.te md) (lo.to md) (hi.to md)
  ev := fun st => match okV (e.ev st), okV (lo.ev st), okV (hi.ev st) with
    | some (.s xs), some l, some h => .ok (cutD (xs.map .int) l h)
    | _, _, _ => .no
  ok := fun md st => by
    split
    · rename_i xs l u h1 h2 h3
      have o0 := e.ok md st
      have o1 := lo.ok md st
      have o2 := hi.ok md st
      rw [okV_some h1] at o0
      rw [okV_some h2] at o1
      rw [okV_some h3] at o2
      exact ⟨fun Q s q => o0.run _ s fun G1 H1 v e1 s1 r => o1.run _ s1 fun G2 H2 e2 s2 => o2.run _ s2 fun G3 H3 e3 s3 => by
        obtain ⟨L, a, b⟩ := id s3
        obtain ⟨p, rfl, hv⟩ := r G3 L H3 (e2.trans e3) a b
        exact ⟨p, _, rfl, sqL_up b.same hv, fun n hn => q G3 H3 n _ ((e1.trans e2).trans e3) s3 hn cut_ints⟩⟩
    · trivial
def zipD : List PyData → List PyData → List PyData
  | d :: ds, e :: es => .tuple [d, e] :: zipD ds es
  | _, _ => []
theorem zipD_len : ∀ (ds es : List PyData), (zipD ds es).length = min ds.length es.length
  | [], es => by simp [zipD]
  | d :: ds, [] => by simp [zipD]
  | d :: ds, e :: es => by
    show (zipD ds es).length + 1 = _
    rw [zipD_len ds es]
    simp only [List.length_cons]
    omega
theorem zipD_get : ∀ (ds es : List PyData) (i : Nat) (h : i < (zipD ds es).length) (h1 : i < ds.length) (h2 : i < es.length), (zipD ds es)[i] = .tuple [ds[i], es[i]]
  | [], es, i, h, h1, h2 => absurd h1 (Nat.not_lt_zero _)
  | d :: ds, [], i, h, h1, h2 => absurd h2 (Nat.not_lt_zero _)
  | d :: ds, e :: es, 0, h, h1, h2 => rfl
  | d :: ds, e :: es, i + 1, h, h1, h2 => zipD_get ds es i (by simpa [zipD] using h) (by simpa using h1) (by simpa using h2)
def XI.zip (a b : XE K) : XI K where
  ti := fun md => iZip K (tCons (a.te md) (tCons (b.te md) tNil))
  ev := fun st => match a.es st, b.es st with
    | some ds, some es => .ok (zipD ds es)
    | _, _ => .no
  ok := fun md st => by
    split
    · rename_i ds es h1 h2
      have o1 := a.oks md st ds h1
      have o2 := b.oks md st es h2
      exact ⟨fun {G σ L0 H} Q s q => o1.run _ s fun G1 H1 a1 vs e1 s1 c1 d1 => o2.run _ s1 fun G2 H2 a2 ws e2 s2 c2 d2 => by
        obtain ⟨L, sl, la⟩ := id s2
        refine ⟨a1, a2, vs, ws, rfl, c1 _ _ _ e2 la, c2 _ _ _ (Same.refl _) la, q G2 H2 _ (e1.trans e2) s2 ⟨fun i G L H e3 l hi => ?_, fun i G L H e3 l hi => ?_⟩⟩
        · have hi2 := hi
          rw [zipD_len] at hi2
          have i1 : i < ds.length := by omega
          have i2 : i < es.length := by omega
          have hq1 := c1 _ _ _ (e2.trans e3) l
          have hq2 := c2 _ _ _ e3 l
          obtain ⟨v, hv, dv⟩ := dpAll_get d1 (List.getElem?_eq_getElem i1)
          obtain ⟨w, hw, dw⟩ := dpAll_get d2 (List.getElem?_eq_getElem i2)
          refine ⟨⟨vs, ws, v, w, hq1, hq2, hv, hw⟩, fun x H' y => ?_⟩
          obtain ⟨T, x1, x2, rfl, hT, rfl, y1, y2⟩ := y
          have ex1 : x1 = v := Option.some.inj ((y1 vs hq1).symm.trans hv)
          have ex2 : x2 = w := Option.some.inj ((y2 ws hq2).symm.trans hw)
          subst ex1
          subst ex2
          have g := same_upd (o := .tup [x1, x2]) (l.freshG hT)
          refine ⟨_, g, fun L l => l.grow hT, ?_⟩
          rw [zipD_get ds es i hi i1 i2]
          exact Dq.tup upd_same (.cons (dp_up ((e2.trans e3).trans g) dv) (.cons (dp_up (e3.trans g) dw) .nil))
        · refine ⟨vs, ws, c1 _ _ _ (e2.trans e3) l, c2 _ _ _ e3 l, ?_⟩
          rw [zipD_len] at hi
          rw [dpAll_len d1, dpAll_len d2]
          omega⟩
    · trivial
end
end R

set_option Elab.async false
set_option linter.all false
set_option maxRecDepth 100000
set_option maxHeartbeats 2000000
namespace R
open PySem PySem.Spec PyProof.Rows L2 Z
theorem slots_out {G : Hp} {L0 : List Cell} {O : Op} : ∀ {σ : L2.St} {ρ : List Sl} {L : List Cell} {i : Nat}, Slots G L0 σ ρ L → ρ[i]? = some (.o O) → ∃ a cs M, σ[i]? = some (some (.ref a)) ∧ O.p G a cs ∧ L.Perm (cs ++ M) ∧ Slots G L0 σ (ρ.set i .x) M
  | _, _, _, _, .nil, h => by simp at h
  | _, _, _, 0, .x _, h => by simp at h
  | _, _, _, 0, .p _ _, h => by simp at h
  | _, _, _, 0, .b _ _, h => by simp at h
  | _, _, _, 0, .o (a := a) (cs := cs) (L := M) q s, h => by
    simp at h; subst h
    exact ⟨a, cs, M, rfl, q, .refl _, .x s⟩
  | _, _, _, i + 1, .x s, h => by
    obtain ⟨a, cs, M, h1, h2, h3, h4⟩ := slots_out (i := i) s (by simpa using h)
    exact ⟨a, cs, M, by simpa using h1, h2, h3, .x h4⟩
  | _, _, _, i + 1, .p q s, h => by
    obtain ⟨a, cs, M, h1, h2, h3, h4⟩ := slots_out (i := i) s (by simpa using h)
    exact ⟨a, cs, M, by simpa using h1, h2, h3, .p q h4⟩
  | _, _, _, i + 1, .b q s, h => by
    obtain ⟨a, cs, M, h1, h2, h3, h4⟩ := slots_out (i := i) s (by simpa using h)
    exact ⟨a, cs, M, by simpa using h1, h2, h3, .b q h4⟩
  | _, _, _, i + 1, .o (cs := ds) q s, h => by
    obtain ⟨a, cs, M, h1, h2, h3, h4⟩ := slots_out (i := i) s (by simpa using h)
    exact ⟨a, cs, ds ++ M, by simpa using h1, h2, (h3.append_left ds).trans (perm_swap _ _ _), .o q h4⟩
theorem slots_in {G : Hp} {L0 : List Cell} {O : Op} {a : Addr} {cs : List Cell} (q : O.p G a cs) : ∀ {σ : L2.St} {ρ : List Sl} {M : List Cell} {i : Nat}, Slots G L0 σ (ρ.set i .x) M → σ[i]? = some (some (.ref a)) → ρ[i]? = some (.o O) → ∃ L, Slots G L0 σ ρ L ∧ L.Perm (cs ++ M)
  | σ, [], M, i, h, h1, h2 => by simp at h2
  | σ, r :: ρ, M, 0, h, h1, h2 => by
    have h2 : r = .o O := by simpa using h2
    subst h2
    have h : Slots G L0 σ (.x :: ρ) M := h
    cases h with
    | @x v σ' _ _ s' =>
      have h1 : v = some (.ref a) := by simpa using h1
      subst h1
      exact ⟨_, .o q s', .refl _⟩
  | σ, r :: ρ, M, i + 1, h, h1, h2 => by
    have h : Slots G L0 σ (r :: ρ.set i .x) M := h
    cases h with
    | x s' =>
      obtain ⟨L, s2, p⟩ := slots_in q s' (by simpa using h1) (by simpa using h2)
      exact ⟨L, .x s2, p⟩
    | p q' s' =>
      obtain ⟨L, s2, p⟩ := slots_in q s' (by simpa using h1) (by simpa using h2)
      exact ⟨L, .p q' s2, p⟩
    | b q' s' =>
      obtain ⟨L, s2, p⟩ := slots_in q s' (by simpa using h1) (by simpa using h2)
      exact ⟨L, .b q' s2, p⟩
    | @o _ _ ds _ _ _ q' s' =>
      obtain ⟨L, s2, p⟩ := slots_in q s' (by simpa using h1) (by simpa using h2)
      exact ⟨ds ++ L, .o q' s2, (p.append_left ds).trans (perm_swap _ _ _)⟩
theorem slots_b_of {G : Hp} {L0 : List Cell} {B : Bw} {v : V} (q : B.p G L0 v) : ∀ {σ : L2.St} {ρ : List Sl} {M : List Cell} {i : Nat}, Slots G L0 σ (ρ.set i .x) M → σ[i]? = some (some v) → Slots G L0 σ (ρ.set i (.b B)) M
  | σ, [], M, i, h, h1 => h
  | σ, r :: ρ, M, 0, h, h1 => by
    have h : Slots G L0 σ (.x :: ρ) M := h
    cases h with
    | @x w σ' _ _ s' =>
      have h1 : w = some v := by simpa using h1
      subst h1
      exact .b q s'
  | σ, r :: ρ, M, i + 1, h, h1 => by
    have h : Slots G L0 σ (r :: ρ.set i .x) M := h
    show Slots G L0 σ (r :: ρ.set i (.b B)) M
    cases h with
    | x s' => exact .x (slots_b_of q s' (by simpa using h1))
    | p q' s' => exact .p q' (slots_b_of q s' (by simpa using h1))
    | b q' s' => exact .b q' (slots_b_of q s' (by simpa using h1))
    | o q' s' => exact .o q' (slots_b_of q s' (by simpa using h1))
theorem slots_x_of {G : Hp} {L0 : List Cell} {B : Bw} : ∀ {σ : L2.St} {ρ : List Sl} {M : List Cell} {i : Nat}, Slots G L0 σ (ρ.set i (.b B)) M → Slots G L0 σ (ρ.set i .x) M
  | σ, [], M, i, h => h
  | σ, r :: ρ, M, 0, h => by
    have h : Slots G L0 σ (.b B :: ρ) M := h
    cases h with
    | b q s' => exact .x s'
  | σ, r :: ρ, M, i + 1, h => by
    have h : Slots G L0 σ (r :: ρ.set i (.b B)) M := h
    show Slots G L0 σ (r :: ρ.set i .x) M
    cases h with
    | x s' => exact .x (slots_x_of s')
    | p q' s' => exact .p q' (slots_x_of s')
    | b q' s' => exact .b q' (slots_x_of s')
    | o q' s' => exact .o q' (slots_x_of s')
/-- an owned list, lent for the time of an expression -/
theorem stt_lend {G H : Hp} {ρ : List Sl} {σ : L2.St} {L0 : List Cell} {ds : List PyData} {i : Nat} (s : Stt G ρ σ L0 H) (hi : ρ[i]? = some (.o (oL ds))) :
    ∃ cs, Stt G (ρ.set i (.b (bL ds))) σ (cs ++ L0) H ∧ ∀ G' H', Same G G' → Stt G' (ρ.set i (.b (bL ds))) σ (cs ++ L0) H' → Stt G' ρ σ L0 H' := by
  obtain ⟨L, sl, la⟩ := s
  obtain ⟨a, cs, M, h1, h2, h3, h4⟩ := slots_out sl hi
  obtain ⟨vs, hcs, hd⟩ := id h2
  have la2 : Lay G (M ++ (cs ++ L0)) H := by
    refine la.perm ?_
    refine (h3.append_right L0).trans ?_
    rw [List.append_assoc]
    exact perm_swap _ _ _
  refine ⟨cs, ⟨M, slots_b_of (v := .ref a) ?_ (h4.mono fun c hc => List.mem_append_right _ hc) h1, la2⟩, fun G' H' e s' => ?_⟩
  · exact ⟨a, vs, rfl, .inr (List.mem_append_left _ (by rw [hcs]; exact List.mem_cons_self ..)), hd⟩
  · obtain ⟨L', sl', la'⟩ := s'
    have sx := slots_x_of sl'
    have sy := Slots.mix e h4 sx
    obtain ⟨L2, s2, p2⟩ := slots_in ((oL ds).up e h2) sy h1 hi
    refine ⟨L2, s2, la'.perm ?_⟩
    refine (perm_swap _ _ _).trans ?_
    rw [← List.append_assoc]
    exact (p2.symm).append_right L0
section
variable {K : PySem.W.Frag}
theorem EvN.lend {te : TE} {ρ : List Sl} {ds r : List PyData} {i : Nat} (hi : ρ[i]? = some (.o (oL ds))) (h : EvN te (ρ.set i (.b (bL ds))) r) : EvN te ρ r := ⟨fun {G σ L0 H} Q s q => by
  obtain ⟨cs, s1, back⟩ := stt_lend s hi
  exact h.run Q s1 fun G' H' p vs e s2 hp d => q G' H' p vs e (back G' H' e s2) hp d⟩
def XN.lend (i : Nat) (n : XN K) : XN K where
  te := n.te
  ev := fun st => match st[i]? with
    | some (.ol ds) => (match n.ev (st.set i (.bl ds)) with
      | .ok r => .ok r
      | _ => .no)
    | _ => n.ev st
  ok := fun md st => by
    cases hi : st[i]? with
    | none => exact n.ok md st
    | some s =>
      cases s with
      | ol ds =>
        have := n.ok md (st.set i (.bl ds))
        show Cm md _ _ _ (match n.ev (st.set i (.bl ds)) with
          | .ok r => .ok r
          | _ => .no)
        cases he : n.ev (st.set i (.bl ds)) with
        | ok r =>
          rw [he, sls_set] at this
          exact EvN.lend (sls_get (K := K) hi) this
        | ex _ _ => trivial
        | no => trivial
      | _ => exact n.ok md st
theorem slots_px {G : Hp} {L0 : List Cell} {R : Rp} : ∀ {σ : L2.St} {ρ : List Sl} {M : List Cell} {i : Nat}, Slots G L0 σ ρ M → ρ[i]? = some (.p R) → Slots G L0 σ (ρ.set i .x) M
  | σ, [], M, i, h, h1 => h
  | σ, r :: ρ, M, 0, h, h1 => by
    have h1 : r = .p R := by simpa using h1
    subst h1
    cases h with
    | p q s' => exact .x s'
  | σ, r :: ρ, M, i + 1, h, h1 => by
    show Slots G L0 σ (r :: ρ.set i .x) M
    cases h with
    | x s' => exact .x (slots_px s' (by simpa using h1))
    | p q' s' => exact .p q' (slots_px s' (by simpa using h1))
    | b q' s' => exact .b q' (slots_px s' (by simpa using h1))
    | o q' s' => exact .o q' (slots_px s' (by simpa using h1))
theorem slots_xp {G : Hp} {L0 : List Cell} {R : Rp} {v : V} (q : R.p G v) : ∀ {σ : L2.St} {ρ : List Sl} {M : List Cell} {i : Nat}, Slots G L0 σ (ρ.set i .x) M → σ[i]? = some (some v) → ρ[i]? = some (.p R) → Slots G L0 σ ρ M
  | σ, [], M, i, h, h1, h2 => by simp at h2
  | σ, r :: ρ, M, 0, h, h1, h2 => by
    have h2 : r = .p R := by simpa using h2
    subst h2
    have h : Slots G L0 σ (.x :: ρ) M := h
    cases h with
    | @x w σ' _ _ s' =>
      have h1 : w = some v := by simpa using h1
      subst h1
      exact .p q s'
  | σ, r :: ρ, M, i + 1, h, h1, h2 => by
    have h : Slots G L0 σ (r :: ρ.set i .x) M := h
    cases h with
    | x s' => exact .x (slots_xp q s' (by simpa using h1) (by simpa using h2))
    | p q' s' => exact .p q' (slots_xp q s' (by simpa using h1) (by simpa using h2))
    | b q' s' => exact .b q' (slots_xp q s' (by simpa using h1) (by simpa using h2))
    | o q' s' => exact .o q' (slots_xp q s' (by simpa using h1) (by simpa using h2))
theorem EvN.blank {te : TE} {ρ : List Sl} {r : List PyData} {R : Rp} {i : Nat} (hi : ρ[i]? = some (.p R)) (h : EvN te (ρ.set i .x) r) : EvN te ρ r := ⟨fun {G σ L0 H} Q s q => by
  obtain ⟨v, hv, rv⟩ := s.get_p hi
  obtain ⟨L, sl, la⟩ := s
  exact h.run Q ⟨L, slots_px sl hi, la⟩ fun G' H' p vs e ⟨L', sl', la'⟩ hp d => q G' H' p vs e ⟨L', slots_xp (R.up e rv) sl' hv hi, la'⟩ hp d⟩
/-- the variable of a comprehension, when its name is in use -/
def XN.blank (i : Nat) (n : XN K) : XN K where
  te := n.te
  ev := fun st => match st[i]? with
    | some (.v _) => (match n.ev (st.set i .x) with
      | .ok r => .ok r
      | _ => .no)
    | _ => n.ev st
  ok := fun md st => by
    cases hi : st[i]? with
    | none => exact n.ok md st
    | some s =>
      cases s with
      | v a =>
        have := n.ok md (st.set i .x)
        show Cm md _ _ _ (match n.ev (st.set i .x) with
          | .ok r => .ok r
          | _ => .no)
        cases he : n.ev (st.set i .x) with
        | ok r =>
          rw [he, sls_set] at this
          exact EvN.blank (sls_get (K := K) hi) this
        | ex _ _ => trivial
        | no => trivial
      | _ => exact n.ok md st
/-- a if t else b, as a test -/
def tIfT (t u v : TT) : TT := fun σ H Q => t σ H fun c H1 => if c = true then u σ H1 Q else v σ H1 Q
theorem pt_ifExpT {X : Cx} {c a b : Expr} {tc ta tb : TT} {pos : Pos} (hc : PT X c tc) (ha : PT X a ta) (hb : PT X b tb) : PT X (.IfExp c a b pos) (tIfT tc ta tb) := by
  refine ⟨fun pins s σ H Q I h => ?_⟩
  refine isTrue_IfExp (thn (hc.run pins s σ H _ I h) fun d s1 ⟨H1, I1, q1⟩ => ?_)
  cases d with
  | true => exact ha.run pins s1 σ H1 Q I1 q1
  | false => exact hb.run pins s1 σ H1 Q I1 q1
def XT.ife (t a b : XT K) : XT K where
  tt := fun md => tIfT (t.tt md) (a.tt md) (b.tt md)
  ev := fun st => (t.ev st).bind fun x => match x with
    | true => a.ev st
    | false => b.ev st
  ok := fun md st => (t.ok md st).bind (fun C n W h => fun Q s q => h _ s q) fun x hx => by
    cases x with
    | true =>
      have ha := a.ok md st
      show Cm md _ _ _ (a.ev st)
      cases he : a.ev st with
      | ok y => rw [he] at ha; exact ⟨fun Q s q => hx.run _ s fun G1 H1 e1 s1 => by rw [if_pos rfl]; exact ha.run _ s1 fun G2 H2 e2 s2 => q G2 H2 (e1.trans e2) s2⟩
      | ex C n =>
        rw [he] at ha
        exact fun l W w => fun {G σ L0 H} Q s q => hx.run _ s fun G1 H1 e1 s1 => by
          rw [if_pos rfl]
          exact ha l W w _ s1 fun G2 H2 d e2 s2 hd => q G2 H2 d (e1.trans e2) s2 hd
      | no => trivial
    | false =>
      have hb := b.ok md st
      show Cm md _ _ _ (b.ev st)
      cases he : b.ev st with
      | ok y => rw [he] at hb; exact ⟨fun Q s q => hx.run _ s fun G1 H1 e1 s1 => by rw [if_neg (by decide)]; exact hb.run _ s1 fun G2 H2 e2 s2 => q G2 H2 (e1.trans e2) s2⟩
      | ex C n =>
        rw [he] at hb
        exact fun l W w => fun {G σ L0 H} Q s q => hx.run _ s fun G1 H1 e1 s1 => by
          rw [if_neg (by decide)]
          exact hb l W w _ s1 fun G2 H2 d e2 s2 hd => q G2 H2 d (e1.trans e2) s2 hd
      | no => trivial
theorem Ex.par {W : WX} {ta : TA} {ρ : List Sl} {R1 R2 : Rp} {i j : Nat} (h : EvA ta ρ [pu R1, pu R2]) : Ex W (tPar i j ta) ρ (.nx ((ρ.set i (.p R1)).set j (.p R2))) := ⟨fun {G σ L0 H} D s q => h.at s fun G1 H1 vs L e1 sl la r => by
  cases r with
  | @cons v vs _ _ h1 t =>
    cases t with
    | @cons w vs _ _ h2 t =>
      cases t
      have s1 : Stt G1 ρ σ L0 H1 := ⟨L, sl, la⟩
      obtain ⟨G2, e2, s2⟩ := s1.set_p h1 i
      obtain ⟨G3, e3, s3⟩ := s2.set_p (R2.up e2 h2) j
      exact ⟨v, w, rfl, q G3 _ H1 ((e1.trans e2).trans e3) s3⟩⟩
def XS.par (i j : Nat) (as : XA K) : XS K where
  ts := fun md => tPar i j (as.ta md)
  ev := fun st => (as.ev st).oc st fun xs => match xs with
    | [.v a, .v b] => .nx ((st.set i (.v a)).set j (.v b))
    | _ => .no
  ok := fun md W st w => oc_ok w (as.ok md st) (fun C n h => ⟨fun D s q => h _ s fun G' H' d e s' hd => q G' _ H' d e s' hd⟩) fun xs h => by
    split
    · rename_i a b
      show Ex _ _ _ (.nx (sls K ((st.set i (.v a)).set j (.v b))))
      rw [sls_set, sls_set]
      exact Ex.par h
    · trivial
/-- the law's own call -/
def lawFn : Fn := ⟨1, false, fun as => match as with
  | [.v (.s xs)] => if xs.length ≤ 63 then .ok (.d (.bool true)) else .no
  | _ => .no⟩
theorem law_run {vs : List V} {H : Hp} {Q : VK} {E : XK} (s : XS K) (N : List Str) (h : SpA (α := List Int) (fun xs => xs.length ≤ 63) (fun xs => [pu (scR K xs)]) (fun _ => .ok (dB true)) vs H Q E)
    (hs : ∀ xs : List Int, xs.length ≤ 63 → runX s false (N.length - 1) [.v (.s xs)] = .ok (.d (.bool true))) : s.ts (.out E) { nx := fun _ H' => Q .non H', rt := Q } (L2.start N vs) H := by
  refine Fn.run (F := lawFn) s N ?_ ?_
  · obtain ⟨xs, G, L, hp, la, al, r⟩ := h
    have hf : lawFn.f [.v (.s xs)] = .ok (.d (.bool true)) := if_pos hp
    refine ⟨⟨[.v (.s xs)], rfl⟩, G, L, by show lawFn.f [.v (.s xs)] ≠ _; rw [hf]; exact fun z => (nomatch z), la, al, ?_⟩
    show ResP Q E G L (resOf K false (lawFn.f [.v (.s xs)]))
    rw [hf]
    exact r
  · intro as hm hn
    show runX s false (N.length - 1) as = _
    have hd : ∀ as : List Av, lawFn.f as ≠ .no → ∃ xs : List Int, as = [.v (.s xs)] ∧ xs.length ≤ 63 := by
      intro as hn
      unfold lawFn at hn
      simp only at hn
      split at hn
      · split at hn
        · exact ⟨_, rfl, by assumption⟩
        · exact absurd rfl hn
      · exact absurd rfl hn
    obtain ⟨xs, rfl, hl⟩ := hd as hn
    rw [hs xs hl]
    exact (if_pos hl).symm
end
end R

set_option Elab.async false
set_option linter.all false
set_option maxRecDepth 100000
set_option maxHeartbeats 2000000
/-! what the texts of layer R come to, as equations -/
namespace R
open PySem PySem.Spec PyProof.Rows L2 Z
section
variable {K : PySem.W.Frag} {st : List Sv} {a b c e : XE K} {i j : Int} {k : Nat} {as : XA K} {t u : XT K}
abbrev iv (n : Int) : Av := .v (.d (.int n))
theorem bind_ok {α β : Type} {x : α} {f : α → Rs β} : (Rs.ok x).bind f = f x := rfl
theorem bind_ex {α β : Type} {C : Addr} {n : Int} {f : α → Rs β} : (Rs.ex C n).bind f = .ex C n := rfl
theorem bind_no {α β : Type} {f : α → Rs β} : (Rs.no).bind f = .no := rfl
theorem oc_k {α : Type} {x : α} {f : α → Oc} : (Rs.ok x).oc st f = f x := rfl
theorem oc_x {α : Type} {C : Addr} {n : Int} {f : α → Oc} : (Rs.ex C n : Rs α).oc st f = .xc st C n := rfl
theorem oc_n {α : Type} {f : α → Oc} : (Rs.no : Rs α).oc st f = .no := rfl
theorem of_some {α : Type} {x : α} : Rs.of (some x) = .ok x := rfl
theorem of_none {α : Type} : Rs.of (none : Option α) = .no := rfl
theorem okV_ok {α : Type} {x : α} : okV (Rs.ok x) = some x := rfl
theorem okV_ex {α : Type} {C : Addr} {n : Int} : okV (Rs.ex C n : Rs α) = none := rfl
theorem okV_no {α : Type} : okV (Rs.no : Rs α) = none := rfl
theorem bOf_b {x : Bool} : bOf (.d (.bool x)) = some x := rfl
theorem iOf_i : iOf (.d (.int i)) = some i := rfl
theorem asL_l {ds : List PyData} : asL (.d (.list ds)) = some ds := rfl
theorem asS_l {ds : List PyData} : asS (.d (.list ds)) = some ds := rfl
theorem asS_s {xs : List Int} : asS (.s xs) = some (xs.map .int) := rfl
theorem lOf_l {ds : List PyData} : lOf (.d (.list ds)) = .ok ds := rfl
theorem var_ev : (XE.var k : XE K).ev st = match st[k]? with
  | some (.v a) => .ok a
  | _ => .no := rfl
theorem var_el : (XE.var k : XE K).el st = match st[k]? with
    | some (.v a) => asL a
    | some (.bl ds) => some ds
    | some (.ol ds) => some ds
    | _ => none := rfl
theorem var_es : (XE.var k : XE K).es st = match st[k]? with
    | some (.v a) => asS a
    | some (.bl ds) => some ds
    | _ => none := rfl
theorem int_ev : (XE.int i : XE K).ev st = .ok (.d (.int i)) := rfl
theorem bool_ev {x : Bool} : (XE.bool x : XE K).ev st = .ok (.d (.bool x)) := rfl
theorem non_ev : (XE.non : XE K).ev st = .ok (.d .none) := rfl
theorem str_ev {x : Str} : (XE.str x : XE K).ev st = .ok (.d (.str x)) := rfl
theorem av_f : a.av false st = (a.ev st).bind fun x => .ok (.v x) := rfl
theorem av_t : a.av true st = match a.el st with
    | some ds => .ok (.l ds)
    | none => match a.ev st with
      | .ex C n => .ex C n
      | _ => .no := rfl
theorem op_ev {o : O2 K} : (XE.op o a b).ev st = (a.av o.ka st).bind fun x => (b.av o.kb st).bind fun y => Rs.of (o.f x y) := rfl
theorem op_el {o : O2 K} : (XE.op o a b).el st = (okV ((XE.op o a b).ev st)).bind asL := rfl
theorem op_es {o : O2 K} : (XE.op o a b).es st = (okV ((XE.op o a b).ev st)).bind asS := rfl
theorem opN_ev {o : O2N K} : (XN.op o a b).ev st = (a.av o.ka st).bind fun x => (b.av o.kb st).bind fun y => Rs.of (o.f x y) := rfl
theorem e_ev {n : XN K} : n.e.ev st = (n.ev st).bind fun ds => .ok (.d (.list ds)) := rfl
theorem e_el {n : XN K} : n.e.el st = (okV (n.e.ev st)).bind asL := rfl
theorem e_es {n : XN K} : n.e.es st = (okV (n.e.ev st)).bind asS := rfl
theorem neg_ev : (XE.neg a).ev st = (a.ev st).bind fun x => match x with
    | .d (.int i) => .ok (.d (.int (-i)))
    | _ => .no := rfl
theorem bv_eq : a.bv st = (a.ev st).bind fun x => Rs.of (bOf x) := rfl
theorem iv_eq : a.iv st = (a.ev st).bind fun x => Rs.of (iOf x) := rfl
theorem andV_ev : (XE.andV a b).ev st = (a.bv st).bind fun x => match x with
    | true => (b.bv st).bind fun y => .ok (.d (.bool y))
    | false => .ok (.d (.bool false)) := rfl
theorem orV_ev : (XE.orV a b).ev st = (a.bv st).bind fun x => match x with
    | false => (b.bv st).bind fun y => .ok (.d (.bool y))
    | true => .ok (.d (.bool true)) := rfl
theorem notV_ev : (XE.notV a).ev st = (a.bv st).bind fun x => .ok (.d (.bool (!x))) := rfl
theorem ife_ev : (XE.ife t a b).ev st = (t.ev st).bind fun x => match x with
    | true => a.ev st
    | false => b.ev st := rfl
theorem ife_el : (XE.ife t a b).el st = (okV ((XE.ife t a b).ev st)).bind asL := rfl
theorem ife_es : (XE.ife t a b).es st = (okV ((XE.ife t a b).ev st)).bind asS := rfl
theorem chain_ev {o o' : O2 K} : (XE.chain o o' a b c).ev st = (a.av o.ka st).bind fun x => (b.av o.kb st).bind fun y => match (o.f x y).bind bOf with
    | some false => .ok (.d (.bool false))
    | some true => match okV (c.av o'.kb st) with
      | some w => Rs.of (((o'.f y w).bind bOf).map fun k => .d (.bool k))
      | none => .no
    | none => .no := rfl
theorem tup_ev : (XE.tup as).ev st = (as.dev st).bind fun ds => .ok (.d (.tuple ds)) := rfl
theorem dev_eq : as.dev st = (as.ev st).bind fun xs => match avD xs with
  | some ds => if ds.length ≤ 1000 then .ok ds else .no
  | none => .no := rfl
theorem avD_nil : avD [] = some [] := rfl
theorem avD_cons {x : PyData} {r : List Av} : avD (.v (.d x) :: r) = (avD r).map (x :: ·) := rfl
theorem lst_ev : (XN.lst as).ev st = as.dev st := rfl
theorem anil_ev : (XA.nil : XA K).ev st = .ok [] := rfl
theorem acons_ev {q : Bool} : (XA.cons q e as).ev st = (e.av q st).bind fun x => (as.ev st).bind fun xs => .ok (x :: xs) := rfl
theorem bi_ev {r : Bi K} : (XE.bi r as).ev st = (as.ev st).bind fun xs => Rs.of (r.f xs) := rfl
theorem biN_ev {r : BiN K} : (XN.bi r as).ev st = (as.ev st).bind fun xs => Rs.of (r.f xs) := rfl
theorem call_ev {F : Fn} {h : F.own = false} : (XE.call F h as).ev st = (as.ev st).bind fun xs => if xs.length = F.m then F.f xs else .no := rfl
theorem call_el {F : Fn} {h : F.own = false} : (XE.call F h as).el st = (okV ((XE.call F h as).ev st)).bind asL := rfl
theorem call_es {F : Fn} {h : F.own = false} : (XE.call F h as).es st = (okV ((XE.call F h as).ev st)).bind asS := rfl
theorem callN_ev {F : Fn} {h : F.own = true} : (XN.call F h as : XN K).ev st = (as.ev st).bind fun xs => if xs.length = F.m then (F.f xs).bind lOf else .no := rfl
theorem meth_ev {C : Addr} {m : Str} {F : Fn} {h : F.own = false} : (XE.meth C m F h e as).ev st = (e.ev st).bind fun v => (instOf C m v).bind fun fs => (as.ev st).bind fun xs => if xs.length + 1 = F.m then F.f (.v (.i C fs) :: xs) else .no := rfl
theorem meth_el {C : Addr} {m : Str} {F : Fn} {h : F.own = false} : (XE.meth C m F h e as).el st = (okV ((XE.meth C m F h e as).ev st)).bind asL := rfl
theorem meth_es {C : Addr} {m : Str} {F : Fn} {h : F.own = false} : (XE.meth C m F h e as).es st = (okV ((XE.meth C m F h e as).ev st)).bind asS := rfl
theorem methN_ev {C : Addr} {m : Str} {F : Fn} {h : F.own = true} : (XN.meth C m F h e as).ev st = (e.ev st).bind fun v => (instOf C m v).bind fun fs => (as.ev st).bind fun xs => if xs.length + 1 = F.m then (F.f (.v (.i C fs) :: xs)).bind lOf else .no := rfl
theorem make_ev {C : Addr} {F : FnI} : (XE.make C F as).ev st = (as.ev st).bind fun xs => if xs.length = F.m then (F.f xs).bind fun fs => .ok (.i C fs) else .no := rfl
theorem fld_ev {C : Addr} {c' : Cls K C} {f : Str} {hn : NoAttr K C f} : (XE.fld C c' f hn e).ev st = (e.ev st).bind fun x => match x with
    | .i C' fs => if C' = C then Rs.of ((fs.lookup f).map Vl.d) else .no
    | _ => .no := rfl
theorem fld_el {C : Addr} {c' : Cls K C} {f : Str} {hn : NoAttr K C f} : (XE.fld C c' f hn e).el st = (okV ((XE.fld C c' f hn e).ev st)).bind asL := rfl
theorem fld_es {C : Addr} {c' : Cls K C} {f : Str} {hn : NoAttr K C f} : (XE.fld C c' f hn e).es st = (okV ((XE.fld C c' f hn e).ev st)).bind asS := rfl
theorem test_ev : (XT.test a).ev st = a.bv st := rfl
theorem B_ev : (XT.B a).ev st = a.bv st := rfl
theorem and_ev : (XT.and t u).ev st = (t.ev st).bind fun x => match x with
    | true => u.ev st
    | false => .ok false := rfl
theorem or_ev : (XT.or t u).ev st = (t.ev st).bind fun x => match x with
    | false => u.ev st
    | true => .ok true := rfl
theorem not_ev : (XT.not t).ev st = (t.ev st).bind fun x => .ok (!x) := rfl
theorem truthL_ev : (XT.truthL a).ev st = Rs.of ((a.el st).map fun ds => !ds.isEmpty) := rfl
theorem ifeT_ev {v : XT K} : (XT.ife t u v).ev st = (t.ev st).bind fun x => match x with
    | true => u.ev st
    | false => v.ev st := rfl
theorem yes_ev : (XT.yes : XT K).ev st = .ok true := rfl
theorem onone_ev : (XO.none : XO K).ev st = .ok Option.none := rfl
theorem osome_ev : (XO.some a).ev st = (a.iv st).bind fun n => .ok (Option.some n) := rfl
theorem sl_ev {lo hi : XO K} : (XN.sl a lo hi).ev st = match a.el st, okV (lo.ev st), okV (hi.ev st) with
    | some ds, some l, some h => .ok (cutD ds l h)
    | _, _, _ => .no := rfl
theorem slS_ev {lo hi : XO K} : (XN.slS a lo hi).ev st = match okV (a.ev st), okV (lo.ev st), okV (hi.ev st) with
    | some (.s xs), some l, some h => .ok (cutD (xs.map .int) l h)
    | _, _, _ => .no := rfl
theorem lend_ev {n : XN K} : (XN.lend k n).ev st = match st[k]? with
    | some (.ol ds) => (match n.ev (st.set k (.bl ds)) with
      | .ok r => .ok r
      | _ => .no)
    | _ => n.ev st := rfl
theorem blank_ev {n : XN K} : (XN.blank k n).ev st = match st[k]? with
    | some (.v _) => (match n.ev (st.set k .x) with
      | .ok r => .ok r
      | _ => .no)
    | _ => n.ev st := rfl
theorem ilist_ev : (XI.list a).ev st = match a.es st with
    | some ds => .ok ds
    | none => match a.ev st with
      | .ex C n => .ex C n
      | _ => .no := rfl
theorem irng1_ev : (XI.range1 as).ev st = (as.ev st).bind fun xs => match avI1 xs with
    | some n => if n.natAbs < 4611686018427387904 then .ok (irange 0 n.toNat) else .no
    | none => .no := rfl
theorem irng2_ev : (XI.range2 as).ev st = (as.ev st).bind fun xs => match avI2 xs with
    | some n => if n.1.natAbs < 4611686018427387904 ∧ n.2.natAbs < 4611686018427387904 then .ok (irange n.1 (n.2 - n.1).toNat) else .no
    | none => .no := rfl
theorem avI1_i : avI1 [.v (.d (.int i))] = some i := rfl
theorem avI2_i : avI2 [.v (.d (.int i)), .v (.d (.int j))] = some (i, j) := rfl
theorem ienum_ev : (XI.enum a).ev st = match a.es st with
    | some ds => .ok (enumD ds)
    | none => .no := rfl
theorem izip_ev : (XI.zip a b).ev st = match a.es st, b.es st with
    | some ds, some es => .ok (zipD ds es)
    | _, _ => .no := rfl
theorem gname_ev {d : PyData} : (XG.name k : XG K).ev d st = if k < st.length then some (st.set k (.v (.d d))) else none := rfl
theorem gnil_ev : (XGs.nil : XGs K).ev [] st = some st := rfl
theorem gcons_ev {g : XG K} {r : XGs K} {d : PyData} {ds : List PyData} : (XGs.cons g r).ev (d :: ds) st = (g.ev d st).bind fun st1 => r.ev ds st1 := rfl
theorem gtup_ev {r : XGs K} {ds : List PyData} : (XG.tup r).ev (.tuple ds) st = r.ev ds st := rfl
theorem glst_ev {r : XGs K} {ds : List PyData} : (XG.lst r).ev (.list ds) st = r.ev ds st := rfl
theorem lc_ev {it : XI K} {g : XG K} {vs : List Nat} : (XN.lc it g t e vs).ev st = (it.ev st).bind fun ds => if ds.length ≤ 100000 ∧ allXb st vs = true ∧ (g.T.all fun i => decide (i ∈ vs)) = true then Rs.of (lcL g t e st ds) else .no := rfl
section
variable {s s' : XS K}
theorem nx_ev : (XS.nx : XS K).ev st = .nx st := rfl
theorem brk_ev : (XS.brk : XS K).ev st = .bk st := rfl
theorem cnt_ev : (XS.cnt : XS K).ev st = .ct st := rfl
theorem seq_ev : (XS.seq s s').ev st = match s.ev st with
    | .nx st' => s'.ev st'
    | o => o := rfl
theorem set_ev : (XS.set k e).ev st = (e.ev st).oc st fun a => .nx (st.set k (.v a)) := rfl
theorem setN_ev {n : XN K} : (XS.setN k n).ev st = (n.ev st).oc st fun ds => if k < st.length then .nx (st.set k (.ol ds)) else .no := rfl
theorem asg_ev {g : XG K} : (XS.asg g e).ev st = (e.ev st).oc st fun a => match a with
    | .d d => match g.ev d st with
      | some st' => .nx st'
      | none => .no
    | _ => .no := rfl
theorem par_ev {m : Nat} : (XS.par k m as).ev st = (as.ev st).oc st fun xs => match xs with
    | [.v a, .v b] => .nx ((st.set k (.v a)).set m (.v b))
    | _ => .no := rfl
theorem aug_ev {o : O2 K} {ho : o.ka = false ∧ o.kb = false} : (XS.aug k o ho e).ev st = match st[k]? with
    | some (.v a) => match okV (e.ev st) with
      | some b => match o.f (.v a) (.v b) with
        | some c => .nx (st.set k (.v c))
        | none => .no
      | none => .no
    | _ => .no := rfl
theorem seti_ev : (XS.seti k a e).ev st = match st[k]? with
    | some (.ol ds) => (e.ev st).oc st fun x => match x with
      | .d d => match okV (a.iv st) with
        | some n => match ixN ds.length n with
          | some j => .nx (st.set k (.ol (ds.set j d)))
          | none => .no
        | none => .no
      | _ => .no
    | _ => .no := rfl
theorem app_ev : (XS.app k e).ev st = match st[k]? with
    | some (.ol ds) => (e.ev st).oc st fun a => match a with
      | .d d => if ds.length < 1000000 then .nx (st.set k (.ol (ds ++ [d]))) else .no
      | _ => .no
    | _ => .no := rfl
theorem ite_ev : (XS.ite t s s').ev st = (t.ev st).oc st fun x => match x with
    | true => s.ev st
    | false => s'.ev st := rfl
theorem ret_ev : (XS.ret e).ev st = (e.ev st).oc st .rt := rfl
theorem retN_ev : (XS.retN : XS K).ev st = .rt (.d .none) := rfl
theorem retO_ev {n : XN K} : (XS.retO n).ev st = (n.ev st).oc st .ro := rfl
theorem retV_ev : (XS.retV k : XS K).ev st = match st[k]? with
    | some (.ol ds) => .ro ds
    | _ => .no := rfl
theorem drop_ev : (XS.drop e).ev st = (e.ev st).oc st fun _ => .nx st := rfl
theorem frz_ev : (XS.frz k s).ev st = s.ev (R.frz k st) := rfl
theorem for_ev {it : XI K} {g : XG K} : (XS.for_ it g s).ev st = (it.ev st).oc st fun ds => lp g s ds st := rfl
theorem lp_nil {g : XG K} : lp g s [] st = .nx st := rfl
theorem raise_ev {C : Addr} {hC : OexC K C} {hn : PySem.W.findIn K (.ref C) "at" = some none} : (XS.raise C hC hn as).ev st = (as.ev st).oc st fun xs => match avI1 xs with
    | some n => .xc st C n
    | none => .no := rfl
theorem try_ev {i : Nat} {cW : Addr} {h : XH K i} : (XS.try_ i cW s h).ev st = match s.ev st with
    | .xc st1 C n => if PySem.W.exmOne K (.ref C) (.ref cW) = some true then clr i (h.ev C n st1) else .no
    | o => o := rfl
theorem lp_cons {g : XG K} {d : PyData} {ds : List PyData} : lp g s (d :: ds) st = match g.ev d st with
    | none => .no
    | some st1 => match s.ev st1 with
      | .nx st2 => lp g s ds st2
      | .ct st2 => lp g s ds st2
      | .bk st2 => .nx st2
      | o => o := rfl
end
/-! the operators -/
theorem add_ka : (O2.add : O2 K).ka = false := rfl
theorem add_kb : (O2.add : O2 K).kb = false := rfl
theorem add_f : (O2.add : O2 K).f (iv i) (iv j) = some (.d (.int (i + j))) := rfl
theorem sub_ka : (O2.sub : O2 K).ka = false := rfl
theorem sub_kb : (O2.sub : O2 K).kb = false := rfl
theorem sub_f : (O2.sub : O2 K).f (iv i) (iv j) = some (.d (.int (i - j))) := rfl
theorem band_ka : (O2.band : O2 K).ka = false := rfl
theorem band_kb : (O2.band : O2 K).kb = false := rfl
theorem band_f : (O2.band : O2 K).f (iv i) (iv j) = some (.d (.int (Builtin.bitAnd i j))) := rfl
theorem lt_ka : (O2.lt : O2 K).ka = false := rfl
theorem lt_kb : (O2.lt : O2 K).kb = false := rfl
theorem lt_f : (O2.lt : O2 K).f (iv i) (iv j) = some (.d (.bool (decide (i < j)))) := rfl
theorem le_ka : (O2.le : O2 K).ka = false := rfl
theorem le_kb : (O2.le : O2 K).kb = false := rfl
theorem le_f : (O2.le : O2 K).f (iv i) (iv j) = some (.d (.bool (decide (i ≤ j)))) := rfl
theorem gt_ka : (O2.gt : O2 K).ka = false := rfl
theorem gt_kb : (O2.gt : O2 K).kb = false := rfl
theorem gt_f : (O2.gt : O2 K).f (iv i) (iv j) = some (.d (.bool (decide (j < i)))) := rfl
theorem ge_ka : (O2.ge : O2 K).ka = false := rfl
theorem ge_kb : (O2.ge : O2 K).kb = false := rfl
theorem ge_f : (O2.ge : O2 K).f (iv i) (iv j) = some (.d (.bool (decide (j ≤ i)))) := rfl
theorem mul_ka : (O2.mul : O2 K).ka = false := rfl
theorem mul_kb : (O2.mul : O2 K).kb = false := rfl
theorem mul_f (h : CMulU i j) : (O2.mul : O2 K).f (iv i) (iv j) = some (.d (.int (i * j))) := if_pos h
theorem div_ka : (O2.div : O2 K).ka = false := rfl
theorem div_kb : (O2.div : O2 K).kb = false := rfl
theorem div_f (h : CDivW i j) : (O2.div : O2 K).f (iv i) (iv j) = some (.d (.int (i / j))) := if_pos h
theorem divU_ka : (O2.divU : O2 K).ka = false := rfl
theorem divU_kb : (O2.divU : O2 K).kb = false := rfl
theorem divU_f (h : CDivU i j) : (O2.divU : O2 K).f (iv i) (iv j) = some (.d (.int (i.fdiv j))) := if_pos h
theorem mod_ka : (O2.mod : O2 K).ka = false := rfl
theorem mod_kb : (O2.mod : O2 K).kb = false := rfl
theorem mod_f (h : 0 < j) : (O2.mod : O2 K).f (iv i) (iv j) = some (.d (.int (i % j))) := if_pos h
theorem pow_ka : (O2.pow : O2 K).ka = false := rfl
theorem pow_kb : (O2.pow : O2 K).kb = false := rfl
theorem pow_f (h : CPow i j) : (O2.pow : O2 K).f (iv i) (iv j) = some (.d (.int (i ^ j.toNat))) := if_pos h
theorem shl_ka : (O2.shl : O2 K).ka = false := rfl
theorem shl_kb : (O2.shl : O2 K).kb = false := rfl
theorem shl_f (h : CPow i j) : (O2.shl : O2 K).f (iv i) (iv j) = some (.d (.int (i * 2 ^ j.toNat))) := if_pos h
theorem shr_ka : (O2.shr : O2 K).ka = false := rfl
theorem shr_kb : (O2.shr : O2 K).kb = false := rfl
theorem shr_f (h : 0 ≤ j) : (O2.shr : O2 K).f (iv i) (iv j) = some (.d (.int (i / 2 ^ j.toNat))) := if_pos h
theorem eq_ka : (O2.eq : O2 K).ka = false := rfl
theorem eq_kb : (O2.eq : O2 K).kb = false := rfl
theorem ne_ka : (O2.ne : O2 K).ka = false := rfl
theorem ne_kb : (O2.ne : O2 K).kb = false := rfl
theorem eqD_ka : (O2.eqD : O2 K).ka = false := rfl
theorem eqD_kb : (O2.eqD : O2 K).kb = false := rfl
theorem neD_ka : (O2.neD : O2 K).ka = false := rfl
theorem neD_kb : (O2.neD : O2 K).kb = false := rfl
theorem isN_ka : (O2.isN : O2 K).ka = false := rfl
theorem isN_kb : (O2.isN : O2 K).kb = false := rfl
theorem notN_ka : (O2.notN : O2 K).ka = false := rfl
theorem notN_kb : (O2.notN : O2 K).kb = false := rfl
theorem ixS_ka : (O2.ixS : O2 K).ka = false := rfl
theorem ixS_kb : (O2.ixS : O2 K).kb = false := rfl
theorem ixT_ka : (O2.ixT : O2 K).ka = false := rfl
theorem ixT_kb : (O2.ixT : O2 K).kb = false := rfl
theorem ixL_ka : (O2.ixL : O2 K).ka = true := rfl
theorem ixL_kb : (O2.ixL : O2 K).kb = false := rfl
theorem inL_ka : (O2.inL : O2 K).ka = false := rfl
theorem inL_kb : (O2.inL : O2 K).kb = true := rfl
theorem notInL_ka : (O2.notInL : O2 K).ka = false := rfl
theorem notInL_kb : (O2.notInL : O2 K).kb = true := rfl
theorem cat_ka : (O2N.cat : O2N K).ka = true := rfl
theorem cat_kb : (O2N.cat : O2N K).kb = true := rfl
theorem rep_ka : (O2N.rep : O2N K).ka = true := rfl
theorem rep_kb : (O2N.rep : O2N K).kb = false := rfl
theorem eq_i : (O2.eq : O2 K).f (iv i) (iv j) = some (.d (.bool (decide (i = j)))) := rfl
theorem eq_s {x y : Str} : (O2.eq : O2 K).f (.v (.d (.str x))) (.v (.d (.str y))) = some (.d (.bool (decide (x = y)))) := rfl
theorem ne_i : (O2.ne : O2 K).f (iv i) (iv j) = some (.d (.bool (!decide (i = j)))) := rfl
theorem ne_s {x y : Str} : (O2.ne : O2 K).f (.v (.d (.str x))) (.v (.d (.str y))) = some (.d (.bool (!decide (x = y)))) := rfl
theorem eqD_f {x y : PyData} (h : SeqAt.shaped x = true ∧ SeqAt.shaped y = true) : (O2.eqD : O2 K).f (.v (.d x)) (.v (.d y)) = some (.d (.bool (PyData.eqv x y))) := if_pos h
theorem neD_f {x y : PyData} (h : SeqAt.shaped x = true ∧ SeqAt.shaped y = true) : (O2.neD : O2 K).f (.v (.d x)) (.v (.d y)) = some (.d (.bool (!PyData.eqv x y))) := if_pos h
theorem isN_f {x : PyData} : (O2.isN : O2 K).f (.v (.d x)) (.v (.d .none)) = some (.d (.bool (isNone x))) := rfl
theorem notN_f {x : PyData} : (O2.notN : O2 K).f (.v (.d x)) (.v (.d .none)) = some (.d (.bool (!isNone x))) := rfl
theorem ixL_f {ds : List PyData} : (O2.ixL : O2 K).f (.l ds) (iv i) = (atI ds i).map Vl.d := rfl
theorem ixT_f {ds : List PyData} : (O2.ixT : O2 K).f (.v (.d (.tuple ds))) (iv i) = (atI ds i).map Vl.d := rfl
theorem ixS_f {xs : List Int} : (O2.ixS : O2 K).f (.v (.s xs)) (iv i) = if 0 ≤ i then (xs[i.toNat]?).map fun n => .d (.int n) else none := rfl
theorem cat_f {ds es : List PyData} (h : ds.length + es.length ≤ 1000000) : (O2N.cat : O2N K).f (.l ds) (.l es) = some (ds ++ es) := if_pos h
theorem len_f {ds : List PyData} : (Bi.len : Bi K).f [.l ds] = some (.d (.int ds.length)) := rfl
theorem lenS_f {xs : List Int} : (Bi.len : Bi K).f [.v (.s xs)] = some (.d (.int xs.length)) := rfl
theorem abs_f : (Bi.abs : Bi K).f [iv i] = some (.d (.int (if i < 0 then -i else i))) := rfl
theorem min2_f : (Bi.min2 : Bi K).f [iv i, iv j] = some (.d (.int (if j < i then j else i))) := rfl
theorem max2_f : (Bi.max2 : Bi K).f [iv i, iv j] = some (.d (.int (if j > i then j else i))) := rfl
theorem int_f : (Bi.int : Bi K).f [iv i] = some (.d (.int i)) := rfl
theorem intB_f {x : Bool} : (Bi.int : Bi K).f [.v (.d (.bool x))] = some (.d (.int (if x then 1 else 0))) := rfl
theorem gcd_f : (Bi.gcd : Bi K).f [iv i, iv j] = some (.d (.int ((Nat.gcd i.natAbs j.natAbs : Nat) : Int))) := rfl
theorem lcm_f (h : i.natAbs.log2 < 9000 ∧ j.natAbs.log2 < 9000) : (Bi.lcm : Bi K).f [iv i, iv j] = some (.d (.int ((Nat.lcm i.natAbs j.natAbs : Nat) : Int))) := if_pos h
theorem sum_f {ns : List Int} : (Bi.sum : Bi K).f [.l (ns.map .int)] = some (.d (.int ns.sum)) := by show (intsOf _).map _ = _; rw [intsOf_map]; rfl
theorem any_f {ns : List Bool} : (Bi.any : Bi K).f [.l (ns.map .bool)] = some (.d (.bool (ns.any id))) := by show (boolsOf _).map _ = _; rw [boolsOf_map]; rfl
theorem all_f {ns : List Bool} : (Bi.all : Bi K).f [.l (ns.map .bool)] = some (.d (.bool (ns.all id))) := by show (boolsOf _).map _ = _; rw [boolsOf_map]; rfl
theorem listN_f {ds : List PyData} : (BiN.list : BiN K).f [.l ds] = some ds := rfl
theorem runX_eq {s : XS K} {o : Bool} {xs : List Av} : runX s o k xs = (s.ev (start xs k)).res o := rfl
theorem res_rt {v : Vl} : (Oc.rt v).res false = .ok v := rfl
theorem res_ro {ds : List PyData} : (Oc.ro ds).res true = .ok (.d (.list ds)) := rfl
theorem res_nx : (Oc.nx st).res false = .ok (.d .none) := rfl
theorem res_xc {C : Addr} {n : Int} {o : Bool} : (Oc.xc st C n).res o = .ex C n := rfl
theorem at0 {α : Type} {x : α} {r : List α} : atI (x :: r) 0 = some x := by
  have : (0 : Int) < (((x :: r).length : Nat) : Int) := by simp only [List.length_cons]; omega
  unfold atI ixN
  rw [if_pos (by decide), if_pos this]
  rfl
theorem at1 {α : Type} {x y : α} {r : List α} : atI (x :: y :: r) 1 = some y := by
  have : (1 : Int) < (((x :: y :: r).length : Nat) : Int) := by simp only [List.length_cons]; omega
  unfold atI ixN
  rw [if_pos (by decide), if_pos this]
  rfl
theorem at2 {α : Type} {x y z : α} {r : List α} : atI (x :: y :: z :: r) 2 = some z := by
  have : (2 : Int) < (((x :: y :: z :: r).length : Nat) : Int) := by simp only [List.length_cons]; omega
  unfold atI ixN
  rw [if_pos (by decide), if_pos this]
  rfl
/-- a loop that goes through: what holds of the state, by what was taken -/
theorem lp_ex {α σ : Type} {g : XG K} {s : XS K} {en : α → PyData} (E : σ → List Sv) (P : List α → σ → Prop) {xs : List α} {x0 : σ} (h0 : P [] x0)
    (h : ∀ pre x post y, xs = pre ++ x :: post → P pre y → ∃ y', P (pre ++ [x]) y' ∧ ∃ st1, g.ev (en x) (E y) = some st1 ∧ (s.ev st1 = .nx (E y') ∨ s.ev st1 = .ct (E y'))) : ∃ y, P xs y ∧ lp g s (xs.map en) (E x0) = .nx (E y) := by
  have key : ∀ (post pre : List α) (y : σ), xs = pre ++ post → P pre y → ∃ y', P xs y' ∧ lp g s (post.map en) (E y) = .nx (E y') := by
    intro post
    induction post with
    | nil => exact fun pre y e hp => ⟨y, by rw [e, List.append_nil]; exact hp, rfl⟩
    | cons x post ih =>
      intro pre y e hp
      obtain ⟨y1, p1, st1, h2, h3⟩ := h pre x post y e hp
      obtain ⟨y', p', l'⟩ := ih (pre ++ [x]) y1 (by rw [e]; simp) p1
      refine ⟨y', p', ?_⟩
      rw [List.map_cons, lp_cons, h2]
      rcases h3 with h3 | h3
      · simp only [h3]; exact l'
      · simp only [h3]; exact l'
  exact key xs [] x0 rfl h0
theorem div_lit {i j : Int} (h : 0 < j ∧ j.natAbs < 18446744073709551616) : CDivW i j := ⟨h.1, by
  by_cases z : j.natAbs = 0
  · rw [z]; decide
  · exact Nat.lt_trans ((Nat.log2_lt z).mpr (show j.natAbs < 2 ^ 64 by have := h.2; omega)) (by decide)⟩
theorem mul_r {i j : Int} (h : j.natAbs < 18446744073709551616) : CMulU i j := .inr (.inl h)
theorem mul_l {i j : Int} (h : i.natAbs < 18446744073709551616) : CMulU i j := .inl h
theorem rng_if {α : Type} {n : Int} {x y : α} (h : n.natAbs < 4611686018427387904) : (if n.natAbs < 4611686018427387904 then x else y) = x := if_pos h
theorem runX_of {s : XS K} {xs : List Av} {v : Vl} (h : s.ev (R.start xs k) = .rt v) : runX s false k xs = .ok v := by rw [runX_eq, h]; rfl
theorem runX_ro {s : XS K} {xs : List Av} {ds : List PyData} (h : s.ev (R.start xs k) = .ro ds) : runX s true k xs = .ok (.d (.list ds)) := by rw [runX_eq, h]; rfl
theorem run_nx {s s' : XS K} {st1 : List Sv} {o : Oc} (h : s.ev st = .nx st1) (h2 : s'.ev st1 = o) : (XS.seq s s').ev st = o := by
  rw [seq_ev, h]
  exact h2
theorem for_nx {it : XI K} {g : XG K} {s : XS K} {ds : List PyData} {o : Oc} (h : it.ev st = .ok ds) (h2 : lp g s ds st = o) : (XS.for_ it g s).ev st = o := by
  rw [for_ev, h]
  exact h2
theorem ite_t {s s' : XS K} {o : Oc} (h : t.ev st = .ok true) (h2 : s.ev st = o) : (XS.ite t s s').ev st = o := by
  rw [ite_ev, h]
  exact h2
theorem ite_f {s s' : XS K} {o : Oc} (h : t.ev st = .ok false) (h2 : s'.ev st = o) : (XS.ite t s s').ev st = o := by
  rw [ite_ev, h]
  exact h2
/-- a comprehension, element by element -/
theorem lcL_nil {g : XG K} : lcL g t e st [] = some [] := rfl
theorem lcL_map {α : Type} {g : XG K} {en f : α → PyData} {xs : List α} (h : ∀ x ∈ xs, lcOne g t e st (en x) = some (some (f x))) : lcL g t e st (xs.map en) = some (xs.map f) := by
  induction xs with
  | nil => rfl
  | cons x xs ih =>
    show (lcOne g t e st (en x)).bind _ = _
    rw [h x (List.mem_cons_self ..)]
    show (lcL g t e st (xs.map en)).map _ = _
    rw [ih fun y hy => h y (List.mem_cons_of_mem _ hy)]
    rfl
theorem lcL_filter {α : Type} {g : XG K} {en f : α → PyData} {p : α → Bool} {xs : List α} (h : ∀ x ∈ xs, lcOne g t e st (en x) = some (if p x = true then some (f x) else none)) : lcL g t e st (xs.map en) = some ((xs.filter p).map f) := by
  induction xs with
  | nil => rfl
  | cons x xs ih =>
    show (lcOne g t e st (en x)).bind _ = _
    rw [h x (List.mem_cons_self ..)]
    show (lcL g t e st (xs.map en)).map _ = _
    rw [ih fun y hy => h y (List.mem_cons_of_mem _ hy), List.filter_cons]
    by_cases hp : p x = true
    · rw [if_pos hp, if_pos hp]; rfl
    · rw [if_neg hp, if_neg hp]; rfl
theorem lcOne_eq {g : XG K} {d : PyData} : lcOne g t e st d = (g.ev d st).bind fun st1 => match okV (t.ev st1) with
  | some false => some none
  | some true => match okV (e.ev st1) with
    | some (.d x) => some (some x)
    | _ => none
  | none => none := rfl
/-- a loop that goes through: the state by what was taken -/
theorem lp_inv {α σ : Type} {g : XG K} {s : XS K} {en : α → PyData} (E : σ → List Sv) (f : σ → α → σ) (P : σ → Prop) {xs : List α} {x0 : σ} (h0 : P x0)
    (h : ∀ y x, P y → x ∈ xs → P (f y x) ∧ ∃ st1, g.ev (en x) (E y) = some st1 ∧ (s.ev st1 = .nx (E (f y x)) ∨ s.ev st1 = .ct (E (f y x)))) : lp g s (xs.map en) (E x0) = .nx (E (xs.foldl f x0)) ∧ P (xs.foldl f x0) := by
  induction xs generalizing x0 with
  | nil => exact ⟨rfl, h0⟩
  | cons x xs ih =>
    obtain ⟨h1, st1, h2, h3⟩ := h x0 x h0 (List.mem_cons_self ..)
    have i := ih h1 fun y z hy hz => h y z hy (List.mem_cons_of_mem _ hz)
    refine ⟨?_, i.2⟩
    rw [List.map_cons, lp_cons, h2]
    rcases h3 with h3 | h3
    · simp only [h3]; exact i.1
    · simp only [h3]; exact i.1
end
end R

set_option Elab.async false
set_option linter.all false
set_option maxRecDepth 100000
set_option maxHeartbeats 4000000
namespace Q
open PySem PySem.Spec PyProof.Rows L2 Z R
def topS (i : Nat) : Stmt := PySem.Challenge.pw_trunkweb_k55_exact_fractions.main.body.getD i (.Pass ⟨0, 0, 0, 0⟩)
abbrev s_WebError___init__ : Stmt := inClass (topS 2) 0
abbrev N_WebError___init__ : List Str := ["self", "at"]
theorem sc_WebError___init__ : FnScope ["self", "at"] ["self", "at"] (defScope s_WebError___init__) := ⟨rfl, rfl, rfl, by decide +kernel, rfl, by decide +kernel, by decide +kernel⟩
abbrev s_fraction : Stmt := topS 5
abbrev N_fraction : List Str := ["numerator", "denominator", "common"]
theorem sc_fraction : FnScope ["numerator", "denominator", "common"] ["numerator", "denominator"] (defScope s_fraction) := ⟨rfl, rfl, rfl, by decide +kernel, rfl, by decide +kernel, by decide +kernel⟩
abbrev s_is_fraction : Stmt := topS 6
abbrev N_is_fraction : List Str := ["pair", "numerator", "denominator"]
theorem sc_is_fraction : FnScope ["pair", "numerator", "denominator"] ["pair"] (defScope s_is_fraction) := ⟨rfl, rfl, rfl, by decide +kernel, rfl, by decide +kernel, by decide +kernel⟩
abbrev s_plus : Stmt := topS 7
abbrev N_plus : List Str := ["first", "second"]
theorem sc_plus : FnScope ["first", "second"] ["first", "second"] (defScope s_plus) := ⟨rfl, rfl, rfl, by decide +kernel, rfl, by decide +kernel, by decide +kernel⟩
abbrev s_minus : Stmt := topS 8
abbrev N_minus : List Str := ["first", "second"]
theorem sc_minus : FnScope ["first", "second"] ["first", "second"] (defScope s_minus) := ⟨rfl, rfl, rfl, by decide +kernel, rfl, by decide +kernel, by decide +kernel⟩
abbrev s_times : Stmt := topS 9
abbrev N_times : List Str := ["first", "second"]
theorem sc_times : FnScope ["first", "second"] ["first", "second"] (defScope s_times) := ⟨rfl, rfl, rfl, by decide +kernel, rfl, by decide +kernel, by decide +kernel⟩
abbrev s_over : Stmt := topS 10
abbrev N_over : List Str := ["first", "second"]
theorem sc_over : FnScope ["first", "second"] ["first", "second"] (defScope s_over) := ⟨rfl, rfl, rfl, by decide +kernel, rfl, by decide +kernel, by decide +kernel⟩
abbrev s_is_less : Stmt := topS 11
abbrev N_is_less : List Str := ["first", "second"]
theorem sc_is_less : FnScope ["first", "second"] ["first", "second"] (defScope s_is_less) := ⟨rfl, rfl, rfl, by decide +kernel, rfl, by decide +kernel, by decide +kernel⟩
abbrev s_floor : Stmt := topS 12
abbrev N_floor : List Str := ["pair"]
theorem sc_floor : FnScope ["pair"] ["pair"] (defScope s_floor) := ⟨rfl, rfl, rfl, by decide +kernel, rfl, by decide +kernel, by decide +kernel⟩
abbrev s_ceiling : Stmt := topS 13
abbrev N_ceiling : List Str := ["pair"]
theorem sc_ceiling : FnScope ["pair"] ["pair"] (defScope s_ceiling) := ⟨rfl, rfl, rfl, by decide +kernel, rfl, by decide +kernel, by decide +kernel⟩
abbrev s_scaled : Stmt := topS 14
abbrev N_scaled : List Str := ["fractions", "scale", "pair"]
theorem sc_scaled : FnScope ["fractions", "scale", "pair"] ["fractions"] (defScope s_scaled) := ⟨rfl, rfl, rfl, by decide +kernel, rfl, by decide +kernel, by decide +kernel⟩
abbrev s_added : Stmt := topS 15
abbrev N_added : List Str := ["fractions", "numerators", "scale"]
theorem sc_added : FnScope ["fractions", "numerators", "scale"] ["fractions"] (defScope s_added) := ⟨rfl, rfl, rfl, by decide +kernel, rfl, by decide +kernel, by decide +kernel⟩
abbrev s_law_numbers : Stmt := topS 17
abbrev N_law_numbers : List Str := ["script", "many", "rest", "mixed", "numbers", "k", "at", "cell"]
theorem sc_law_numbers : FnScope ["script", "many", "rest", "mixed", "numbers", "k", "at", "cell"] ["script", "many"] (defScope s_law_numbers) := ⟨rfl, rfl, rfl, by decide +kernel, rfl, by decide +kernel, by decide +kernel⟩
abbrev s_law_lowest : Stmt := topS 18
abbrev N_law_lowest : List Str := ["p", "q", "one", "two", "turn"]
theorem sc_law_lowest : FnScope ["p", "q", "one", "two", "turn"] ["p", "q"] (defScope s_law_lowest) := ⟨rfl, rfl, rfl, by decide +kernel, rfl, by decide +kernel, by decide +kernel⟩
abbrev s_law_plus : Stmt := topS 19
abbrev N_law_plus : List Str := ["first", "second"]
theorem sc_law_plus : FnScope ["first", "second"] ["first", "second"] (defScope s_law_plus) := ⟨rfl, rfl, rfl, by decide +kernel, rfl, by decide +kernel, by decide +kernel⟩
abbrev s_law_times : Stmt := topS 20
abbrev N_law_times : List Str := ["first", "second"]
theorem sc_law_times : FnScope ["first", "second"] ["first", "second"] (defScope s_law_times) := ⟨rfl, rfl, rfl, by decide +kernel, rfl, by decide +kernel, by decide +kernel⟩
abbrev s_law_less : Stmt := topS 21
abbrev N_law_less : List Str := ["first", "second"]
theorem sc_law_less : FnScope ["first", "second"] ["first", "second"] (defScope s_law_less) := ⟨rfl, rfl, rfl, by decide +kernel, rfl, by decide +kernel, by decide +kernel⟩
abbrev s_law_added : Stmt := topS 22
abbrev N_law_added : List Str := ["rows", "total", "one"]
theorem sc_law_added : FnScope ["rows", "total", "one"] ["rows"] (defScope s_law_added) := ⟨rfl, rfl, rfl, by decide +kernel, rfl, by decide +kernel, by decide +kernel⟩
abbrev s_law_refused : Stmt := topS 24
abbrev N_law_refused : List Str := ["way", "one", "two", "error"]
theorem sc_law_refused : FnScope ["way", "one", "two", "error"] ["way", "one", "two"] (defScope s_law_refused) := ⟨rfl, rfl, rfl, by decide +kernel, rfl, by decide +kernel, by decide +kernel⟩
abbrev s_law_pair : Stmt := topS 25
abbrev N_law_pair : List Str := ["script", "numbers", "k", "top", "below"]
theorem sc_law_pair : FnScope ["script", "numbers", "k", "top", "below"] ["script", "numbers", "k"] (defScope s_law_pair) := ⟨rfl, rfl, rfl, by decide +kernel, rfl, by decide +kernel, by decide +kernel⟩
abbrev s_law_good : Stmt := topS 26
abbrev N_law_good : List Str := ["one"]
theorem sc_law_good : FnScope ["one"] ["one"] (defScope s_law_good) := ⟨rfl, rfl, rfl, by decide +kernel, rfl, by decide +kernel, by decide +kernel⟩
abbrev s_law_round : Stmt := topS 27
abbrev N_law_round : List Str := ["one", "low", "high"]
theorem sc_law_round : FnScope ["one", "low", "high"] ["one"] (defScope s_law_round) := ⟨rfl, rfl, rfl, by decide +kernel, rfl, by decide +kernel, by decide +kernel⟩
abbrev s_law : Stmt := topS 28
abbrev N_law : List Str := ["script", "numbers", "made", "k", "top", "below", "one", "two", "kept"]
theorem sc_law : FnScope ["script", "numbers", "made", "k", "top", "below", "one", "two", "kept"] ["script"] (defScope s_law) := ⟨rfl, rfl, rfl, by decide +kernel, rfl, by decide +kernel, by decide +kernel⟩
/-- what the top says -/
structure Tx (K : PySem.W.Frag) (mg : Str → Option Value) where
  f_WebError___init__ : Addr
  fd_WebError___init__ : FuncData
  F_WebError___init__ : Fun K "__init__" "WebError.__init__" s_WebError___init__ f_WebError___init__ fd_WebError___init__
  b_WebError___init__ : Binds K fd_WebError___init__ ["self", "at"] []
  f_fraction : Addr
  fd_fraction : FuncData
  F_fraction : Fun K "fraction" "fraction" s_fraction f_fraction fd_fraction
  b_fraction : Binds K fd_fraction ["numerator", "denominator"] []
  g_fraction : mg "fraction" = some (.ref f_fraction)
  f_is_fraction : Addr
  fd_is_fraction : FuncData
  F_is_fraction : Fun K "is_fraction" "is_fraction" s_is_fraction f_is_fraction fd_is_fraction
  b_is_fraction : Binds K fd_is_fraction ["pair"] []
  g_is_fraction : mg "is_fraction" = some (.ref f_is_fraction)
  f_plus : Addr
  fd_plus : FuncData
  F_plus : Fun K "plus" "plus" s_plus f_plus fd_plus
  b_plus : Binds K fd_plus ["first", "second"] []
  g_plus : mg "plus" = some (.ref f_plus)
  f_minus : Addr
  fd_minus : FuncData
  F_minus : Fun K "minus" "minus" s_minus f_minus fd_minus
  b_minus : Binds K fd_minus ["first", "second"] []
  g_minus : mg "minus" = some (.ref f_minus)
  f_times : Addr
  fd_times : FuncData
  F_times : Fun K "times" "times" s_times f_times fd_times
  b_times : Binds K fd_times ["first", "second"] []
  g_times : mg "times" = some (.ref f_times)
  f_over : Addr
  fd_over : FuncData
  F_over : Fun K "over" "over" s_over f_over fd_over
  b_over : Binds K fd_over ["first", "second"] []
  g_over : mg "over" = some (.ref f_over)
  f_is_less : Addr
  fd_is_less : FuncData
  F_is_less : Fun K "is_less" "is_less" s_is_less f_is_less fd_is_less
  b_is_less : Binds K fd_is_less ["first", "second"] []
  g_is_less : mg "is_less" = some (.ref f_is_less)
  f_floor : Addr
  fd_floor : FuncData
  F_floor : Fun K "floor" "floor" s_floor f_floor fd_floor
  b_floor : Binds K fd_floor ["pair"] []
  g_floor : mg "floor" = some (.ref f_floor)
  f_ceiling : Addr
  fd_ceiling : FuncData
  F_ceiling : Fun K "ceiling" "ceiling" s_ceiling f_ceiling fd_ceiling
  b_ceiling : Binds K fd_ceiling ["pair"] []
  g_ceiling : mg "ceiling" = some (.ref f_ceiling)
  f_scaled : Addr
  fd_scaled : FuncData
  F_scaled : Fun K "scaled" "scaled" s_scaled f_scaled fd_scaled
  b_scaled : Binds K fd_scaled ["fractions"] []
  g_scaled : mg "scaled" = some (.ref f_scaled)
  f_added : Addr
  fd_added : FuncData
  F_added : Fun K "added" "added" s_added f_added fd_added
  b_added : Binds K fd_added ["fractions"] []
  g_added : mg "added" = some (.ref f_added)
  f_law_numbers : Addr
  fd_law_numbers : FuncData
  F_law_numbers : Fun K "_law_numbers" "_law_numbers" s_law_numbers f_law_numbers fd_law_numbers
  b_law_numbers : Binds K fd_law_numbers ["script", "many"] []
  g_law_numbers : mg "_law_numbers" = some (.ref f_law_numbers)
  f_law_lowest : Addr
  fd_law_lowest : FuncData
  F_law_lowest : Fun K "_law_lowest" "_law_lowest" s_law_lowest f_law_lowest fd_law_lowest
  b_law_lowest : Binds K fd_law_lowest ["p", "q"] []
  g_law_lowest : mg "_law_lowest" = some (.ref f_law_lowest)
  f_law_plus : Addr
  fd_law_plus : FuncData
  F_law_plus : Fun K "_law_plus" "_law_plus" s_law_plus f_law_plus fd_law_plus
  b_law_plus : Binds K fd_law_plus ["first", "second"] []
  g_law_plus : mg "_law_plus" = some (.ref f_law_plus)
  f_law_times : Addr
  fd_law_times : FuncData
  F_law_times : Fun K "_law_times" "_law_times" s_law_times f_law_times fd_law_times
  b_law_times : Binds K fd_law_times ["first", "second"] []
  g_law_times : mg "_law_times" = some (.ref f_law_times)
  f_law_less : Addr
  fd_law_less : FuncData
  F_law_less : Fun K "_law_less" "_law_less" s_law_less f_law_less fd_law_less
  b_law_less : Binds K fd_law_less ["first", "second"] []
  g_law_less : mg "_law_less" = some (.ref f_law_less)
  f_law_added : Addr
  fd_law_added : FuncData
  F_law_added : Fun K "_law_added" "_law_added" s_law_added f_law_added fd_law_added
  b_law_added : Binds K fd_law_added ["rows"] []
  g_law_added : mg "_law_added" = some (.ref f_law_added)
  f_law_refused : Addr
  fd_law_refused : FuncData
  F_law_refused : Fun K "_law_refused" "_law_refused" s_law_refused f_law_refused fd_law_refused
  b_law_refused : Binds K fd_law_refused ["way", "one", "two"] []
  g_law_refused : mg "_law_refused" = some (.ref f_law_refused)
  f_law_pair : Addr
  fd_law_pair : FuncData
  F_law_pair : Fun K "_law_pair" "_law_pair" s_law_pair f_law_pair fd_law_pair
  b_law_pair : Binds K fd_law_pair ["script", "numbers", "k"] []
  g_law_pair : mg "_law_pair" = some (.ref f_law_pair)
  f_law_good : Addr
  fd_law_good : FuncData
  F_law_good : Fun K "_law_good" "_law_good" s_law_good f_law_good fd_law_good
  b_law_good : Binds K fd_law_good ["one"] []
  g_law_good : mg "_law_good" = some (.ref f_law_good)
  f_law_round : Addr
  fd_law_round : FuncData
  F_law_round : Fun K "_law_round" "_law_round" s_law_round f_law_round fd_law_round
  b_law_round : Binds K fd_law_round ["one"] []
  g_law_round : mg "_law_round" = some (.ref f_law_round)
  f_law : Addr
  fd_law : FuncData
  F_law : Fun K "law" "law" s_law f_law fd_law
  b_law : Binds K fd_law ["script"] []
  g_law : mg "law" = some (.ref f_law)
  c_WebError : Addr
  x_WebError : OexC K c_WebError ∧ PySem.W.findIn K (.ref c_WebError) "at" = some none ∧ PySem.W.findIn K (.ref c_WebError) "__init__" = some (some (.ref f_WebError___init__)) ∧ PySem.W.typeIn K (.ref f_WebError___init__) = some (.type "function") ∧ mg "WebError" = some (.ref c_WebError)
  e_WebError : ExcC K c_WebError
  ef_WebError : XfC K c_WebError
  c_ZeroDivisor : Addr
  x_ZeroDivisor : OexC K c_ZeroDivisor ∧ PySem.W.findIn K (.ref c_ZeroDivisor) "at" = some none ∧ PySem.W.findIn K (.ref c_ZeroDivisor) "__init__" = some (some (.ref f_WebError___init__)) ∧ PySem.W.typeIn K (.ref f_WebError___init__) = some (.type "function") ∧ mg "ZeroDivisor" = some (.ref c_ZeroDivisor)
  e_ZeroDivisor : ExcC K c_ZeroDivisor
  ef_ZeroDivisor : XfC K c_ZeroDivisor
  em_ZeroDivisor : PySem.W.exmOne K (.ref c_ZeroDivisor) (.ref c_WebError) = some true
  is_ZeroDivisor_ZeroDivisor : PySem.W.kitOne K (.ref c_ZeroDivisor) (.ref c_ZeroDivisor) = some true
  z_len : mg "len" = none
  z_range : mg "range" = none
  z_abs : mg "abs" = none
  z_int : mg "int" = none
  z_sum : mg "sum" = none
  z_isinstance : mg "isinstance" = none
  z_list : mg "list" = none
  z_gcd : mg "gcd" = some (.builtin "math.gcd")
  z_lcm : mg "lcm" = some (.builtin "math.lcm")
def Tx.kn {K : PySem.W.Frag} {mg : Str → Option Value} (T : Tx K mg) : List Addr := [T.c_WebError, T.c_ZeroDivisor]
theorem Tx.kn_at {K : PySem.W.Frag} {mg : Str → Option Value} (T : Tx K mg) : ∀ C ∈ T.kn, XfC K C ∧ PySem.W.findIn K (.ref C) "at" = some none := fun C h => by
  unfold Tx.kn at h
  simp only [List.mem_cons, List.not_mem_nil, or_false] at h
  rcases h with rfl | rfl
  · exact ⟨T.ef_WebError, T.x_WebError.2.1⟩
  · exact ⟨T.ef_ZeroDivisor, T.x_ZeroDivisor.2.1⟩
theorem Tx.kn_is {K : PySem.W.Frag} {mg : Str → Option Value} (T : Tx K mg) : ∀ C ∈ T.kn, ExcC K C := fun C h => by
  unfold Tx.kn at h
  simp only [List.mem_cons, List.not_mem_nil, or_false] at h
  rcases h with rfl | rfl
  · exact T.e_WebError
  · exact T.e_ZeroDivisor
section
variable {K : PySem.W.Frag} {mg : Str → Option Value}
def xs_fraction (T : Tx K mg) : XS K := (.seq (.ite (.test (.op O2.eq (.var 1) (.int 0)))
    (.raise T.c_ZeroDivisor T.x_ZeroDivisor.1 T.x_ZeroDivisor.2.1 (.cons false (.var 0) .nil))
    XS.nx)
    (.seq (.set 2 (.bi Bi.gcd (.cons false (.var 0) (.cons false (.var 1) .nil))))
    (.seq (.ite (.test (.op O2.lt (.var 1) (.int 0)))
    (.set 2 (.neg (.var 2)))
    XS.nx)
    (.ret (.tup (.cons false (.op O2.divU (.var 0) (.var 2)) (.cons false (.op O2.divU (.var 1) (.var 2)) .nil)))))))
def fn_fraction (T : Tx K mg) : Fn := ⟨2, false, fun as => runX (xs_fraction T) false 1 as⟩
theorem fnf_fraction (T : Tx K mg) (as : List Av) : (fn_fraction T).f as = runX (xs_fraction T) false 1 as := by unfold fn_fraction; rfl
theorem fnm_fraction (T : Tx K mg) : (fn_fraction T).m = 2 := by unfold fn_fraction; rfl
theorem fno_fraction (T : Tx K mg) : (fn_fraction T).own = false := by unfold fn_fraction; rfl
def xs_is_fraction (T : Tx K mg) : XS K := (.seq (.asg (.tup (.cons (.name 1) (.cons (.name 2) .nil))) (.var 0))
    (.ret (.andV (.op O2.ge (.var 2) (.int 1)) (.op O2.eq (.bi Bi.gcd (.cons false (.var 1) (.cons false (.var 2) .nil))) (.int 1)))))
def fn_is_fraction (T : Tx K mg) : Fn := ⟨1, false, fun as => runX (xs_is_fraction T) false 2 as⟩
theorem fnf_is_fraction (T : Tx K mg) (as : List Av) : (fn_is_fraction T).f as = runX (xs_is_fraction T) false 2 as := by unfold fn_is_fraction; rfl
theorem fnm_is_fraction (T : Tx K mg) : (fn_is_fraction T).m = 1 := by unfold fn_is_fraction; rfl
theorem fno_is_fraction (T : Tx K mg) : (fn_is_fraction T).own = false := by unfold fn_is_fraction; rfl
def xs_plus (T : Tx K mg) : XS K := (.ret (.call (fn_fraction T) (fno_fraction T) (.cons false (.op O2.add (.op O2.mul (.op O2.ixT (.var 0) (.int 0)) (.op O2.ixT (.var 1) (.int 1))) (.op O2.mul (.op O2.ixT (.var 1) (.int 0)) (.op O2.ixT (.var 0) (.int 1)))) (.cons false (.op O2.mul (.op O2.ixT (.var 0) (.int 1)) (.op O2.ixT (.var 1) (.int 1))) .nil))))
def fn_plus (T : Tx K mg) : Fn := ⟨2, false, fun as => runX (xs_plus T) false 0 as⟩
theorem fnf_plus (T : Tx K mg) (as : List Av) : (fn_plus T).f as = runX (xs_plus T) false 0 as := by unfold fn_plus; rfl
theorem fnm_plus (T : Tx K mg) : (fn_plus T).m = 2 := by unfold fn_plus; rfl
theorem fno_plus (T : Tx K mg) : (fn_plus T).own = false := by unfold fn_plus; rfl
def xs_minus (T : Tx K mg) : XS K := (.ret (.call (fn_fraction T) (fno_fraction T) (.cons false (.op O2.sub (.op O2.mul (.op O2.ixT (.var 0) (.int 0)) (.op O2.ixT (.var 1) (.int 1))) (.op O2.mul (.op O2.ixT (.var 1) (.int 0)) (.op O2.ixT (.var 0) (.int 1)))) (.cons false (.op O2.mul (.op O2.ixT (.var 0) (.int 1)) (.op O2.ixT (.var 1) (.int 1))) .nil))))
def fn_minus (T : Tx K mg) : Fn := ⟨2, false, fun as => runX (xs_minus T) false 0 as⟩
theorem fnf_minus (T : Tx K mg) (as : List Av) : (fn_minus T).f as = runX (xs_minus T) false 0 as := by unfold fn_minus; rfl
theorem fnm_minus (T : Tx K mg) : (fn_minus T).m = 2 := by unfold fn_minus; rfl
theorem fno_minus (T : Tx K mg) : (fn_minus T).own = false := by unfold fn_minus; rfl
def xs_times (T : Tx K mg) : XS K := (.ret (.call (fn_fraction T) (fno_fraction T) (.cons false (.op O2.mul (.op O2.ixT (.var 0) (.int 0)) (.op O2.ixT (.var 1) (.int 0))) (.cons false (.op O2.mul (.op O2.ixT (.var 0) (.int 1)) (.op O2.ixT (.var 1) (.int 1))) .nil))))
def fn_times (T : Tx K mg) : Fn := ⟨2, false, fun as => runX (xs_times T) false 0 as⟩
theorem fnf_times (T : Tx K mg) (as : List Av) : (fn_times T).f as = runX (xs_times T) false 0 as := by unfold fn_times; rfl
theorem fnm_times (T : Tx K mg) : (fn_times T).m = 2 := by unfold fn_times; rfl
theorem fno_times (T : Tx K mg) : (fn_times T).own = false := by unfold fn_times; rfl
def xs_over (T : Tx K mg) : XS K := (.ret (.call (fn_fraction T) (fno_fraction T) (.cons false (.op O2.mul (.op O2.ixT (.var 0) (.int 0)) (.op O2.ixT (.var 1) (.int 1))) (.cons false (.op O2.mul (.op O2.ixT (.var 0) (.int 1)) (.op O2.ixT (.var 1) (.int 0))) .nil))))
def fn_over (T : Tx K mg) : Fn := ⟨2, false, fun as => runX (xs_over T) false 0 as⟩
theorem fnf_over (T : Tx K mg) (as : List Av) : (fn_over T).f as = runX (xs_over T) false 0 as := by unfold fn_over; rfl
theorem fnm_over (T : Tx K mg) : (fn_over T).m = 2 := by unfold fn_over; rfl
theorem fno_over (T : Tx K mg) : (fn_over T).own = false := by unfold fn_over; rfl
def xs_is_less (T : Tx K mg) : XS K := (.ret (.op O2.lt (.op O2.mul (.op O2.ixT (.var 0) (.int 0)) (.op O2.ixT (.var 1) (.int 1))) (.op O2.mul (.op O2.ixT (.var 1) (.int 0)) (.op O2.ixT (.var 0) (.int 1)))))
def fn_is_less (T : Tx K mg) : Fn := ⟨2, false, fun as => runX (xs_is_less T) false 0 as⟩
theorem fnf_is_less (T : Tx K mg) (as : List Av) : (fn_is_less T).f as = runX (xs_is_less T) false 0 as := by unfold fn_is_less; rfl
theorem fnm_is_less (T : Tx K mg) : (fn_is_less T).m = 2 := by unfold fn_is_less; rfl
theorem fno_is_less (T : Tx K mg) : (fn_is_less T).own = false := by unfold fn_is_less; rfl
def xs_floor (T : Tx K mg) : XS K := (.ret (.op O2.div (.op O2.ixT (.var 0) (.int 0)) (.op O2.ixT (.var 0) (.int 1))))
def fn_floor (T : Tx K mg) : Fn := ⟨1, false, fun as => runX (xs_floor T) false 0 as⟩
theorem fnf_floor (T : Tx K mg) (as : List Av) : (fn_floor T).f as = runX (xs_floor T) false 0 as := by unfold fn_floor; rfl
theorem fnm_floor (T : Tx K mg) : (fn_floor T).m = 1 := by unfold fn_floor; rfl
theorem fno_floor (T : Tx K mg) : (fn_floor T).own = false := by unfold fn_floor; rfl
def xs_ceiling (T : Tx K mg) : XS K := (.ret (.neg (.op O2.div (.neg (.op O2.ixT (.var 0) (.int 0))) (.op O2.ixT (.var 0) (.int 1)))))
def fn_ceiling (T : Tx K mg) : Fn := ⟨1, false, fun as => runX (xs_ceiling T) false 0 as⟩
theorem fnf_ceiling (T : Tx K mg) (as : List Av) : (fn_ceiling T).f as = runX (xs_ceiling T) false 0 as := by unfold fn_ceiling; rfl
theorem fnm_ceiling (T : Tx K mg) : (fn_ceiling T).m = 1 := by unfold fn_ceiling; rfl
theorem fno_ceiling (T : Tx K mg) : (fn_ceiling T).own = false := by unfold fn_ceiling; rfl
def xb_scaled_1 (T : Tx K mg) : XS K := (.set 1 (.bi Bi.lcm (.cons false (.var 1) (.cons false (.op O2.ixT (.var 2) (.int 1)) .nil))))
def xs_scaled (T : Tx K mg) : XS K := (.seq (.set 1 (.int 1))
    (.seq (.for_ (.list (.var 0)) (.name 2) (xb_scaled_1 T))
    (.ret (.tup (.cons false (XN.blank 2 (.lc (.list (.var 0)) (.name 2) .yes (.op O2.mul (.op O2.ixT (.var 2) (.int 0)) (.op O2.div (.var 1) (.op O2.ixT (.var 2) (.int 1)))) [2])).e (.cons false (.var 1) .nil))))))
def fn_scaled (T : Tx K mg) : Fn := ⟨1, false, fun as => runX (xs_scaled T) false 2 as⟩
theorem fnf_scaled (T : Tx K mg) (as : List Av) : (fn_scaled T).f as = runX (xs_scaled T) false 2 as := by unfold fn_scaled; rfl
theorem fnm_scaled (T : Tx K mg) : (fn_scaled T).m = 1 := by unfold fn_scaled; rfl
theorem fno_scaled (T : Tx K mg) : (fn_scaled T).own = false := by unfold fn_scaled; rfl
def xs_added (T : Tx K mg) : XS K := (.seq (.asg (.tup (.cons (.name 1) (.cons (.name 2) .nil))) (.call (fn_scaled T) (fno_scaled T) (.cons false (.var 0) .nil)))
    (.ret (.call (fn_fraction T) (fno_fraction T) (.cons false (.bi Bi.sum (.cons true (.var 1) .nil)) (.cons false (.var 2) .nil)))))
def fn_added (T : Tx K mg) : Fn := ⟨1, false, fun as => runX (xs_added T) false 2 as⟩
theorem fnf_added (T : Tx K mg) (as : List Av) : (fn_added T).f as = runX (xs_added T) false 2 as := by unfold fn_added; rfl
theorem fnm_added (T : Tx K mg) : (fn_added T).m = 1 := by unfold fn_added; rfl
theorem fno_added (T : Tx K mg) : (fn_added T).own = false := by unfold fn_added; rfl
def xb_law_numbers_1 (T : Tx K mg) : XS K := (.seq (.set 6 (.op O2.mod (.bi Bi.int (.cons false (.var 5) .nil)) (.bi Bi.len (.cons true (.var 2) .nil))))
    (.ite (.test (.op O2.ge (.op O2.ixL (.var 2) (.var 6)) (.op O2.pow (.int 10) (.int 18))))
    (.seq (.app 4 (.op O2.mod (.bi Bi.int (.cons false (.op O2.ixL (.var 2) (.var 6)) .nil)) (.int 65536)))
    (.seti 2 (.var 6) (.op O2.div (.op O2.ixL (.var 2) (.var 6)) (.int 65536))))
    (.seq (.seti 3 (.var 6) (.op O2.mod (.bi Bi.int (.cons false (.op O2.add (.op O2.add (.op O2.mul (.op O2.ixL (.var 3) (.var 6)) (.int 16807)) (.int 12345)) (.op O2.mul (.int 7919) (.var 5))) .nil)) (.int 2147483647)))
    (.app 4 (.op O2.mod (.bi Bi.int (.cons false (.op O2.add (.op O2.ixL (.var 2) (.var 6)) (.op O2.div (.op O2.ixL (.var 3) (.var 6)) (.int 5))) .nil)) (.int 65536))))))
def xs_law_numbers (T : Tx K mg) : XS K := (.seq (.setN 2 (.op O2N.cat (XN.lc (.list (XN.slS (.var 0) .none (.some (.int 63))).e) (.name 7) .yes (.bi Bi.abs (.cons false (.var 7) .nil)) [7]).e (XN.lst (.cons false (.int 0) .nil)).e))
    (.seq (.ite (.test (.op O2.gt (.bi Bi.len (.cons false (.var 0) .nil)) (.int 0)))
    (.setN 2 (.sl (.var 2) .none (.some (.neg (.int 1)))))
    XS.nx)
    (.seq (.setN 3 (.lend 2 (.lc (.list (.var 2)) (.name 7) .yes (.op O2.mod (.bi Bi.int (.cons false (.op O2.add (.op O2.mul (.var 7) (.int 48271)) (.int 11)) .nil)) (.int 2147483647)) [7])))
    (.seq (.setN 4 (.lst .nil))
    (.seq (.for_ (.range1 (.cons false (.var 1) .nil)) (.name 5) (xb_law_numbers_1 T))
    (.frz 4 (.ret (.var 4))))))))
def fn_law_numbers (T : Tx K mg) : Fn := ⟨2, false, fun as => runX (xs_law_numbers T) false 6 as⟩
theorem fnf_law_numbers (T : Tx K mg) (as : List Av) : (fn_law_numbers T).f as = runX (xs_law_numbers T) false 6 as := by unfold fn_law_numbers; rfl
theorem fnm_law_numbers (T : Tx K mg) : (fn_law_numbers T).m = 2 := by unfold fn_law_numbers; rfl
theorem fno_law_numbers (T : Tx K mg) : (fn_law_numbers T).own = false := by unfold fn_law_numbers; rfl
def xb_law_lowest_1 (T : Tx K mg) : XS K := (.seq (.ite (.test (.op O2.eq (.var 3) (.int 0)))
    .brk
    XS.nx)
    (.par 2 3 (.cons false (.var 3) (.cons false (.op O2.mod (.bi Bi.int (.cons false (.var 2) .nil)) (.var 3)) .nil))))
def xs_law_lowest (T : Tx K mg) : XS K := (.seq (.ite (.test (.op O2.lt (.var 1) (.int 0)))
    (.par 0 1 (.cons false (.neg (.var 0)) (.cons false (.neg (.var 1)) .nil)))
    XS.nx)
    (.seq (.par 2 3 (.cons false (.bi Bi.abs (.cons false (.var 0) .nil)) (.cons false (.var 1) .nil)))
    (.seq (.for_ (.range1 (.cons false (.int 4000) .nil)) (.name 4) (xb_law_lowest_1 T))
    (.ret (.tup (.cons false (.op O2.div (.var 0) (.var 2)) (.cons false (.op O2.div (.var 1) (.var 2)) .nil)))))))
def fn_law_lowest (T : Tx K mg) : Fn := ⟨2, false, fun as => runX (xs_law_lowest T) false 3 as⟩
theorem fnf_law_lowest (T : Tx K mg) (as : List Av) : (fn_law_lowest T).f as = runX (xs_law_lowest T) false 3 as := by unfold fn_law_lowest; rfl
theorem fnm_law_lowest (T : Tx K mg) : (fn_law_lowest T).m = 2 := by unfold fn_law_lowest; rfl
theorem fno_law_lowest (T : Tx K mg) : (fn_law_lowest T).own = false := by unfold fn_law_lowest; rfl
def xs_law_plus (T : Tx K mg) : XS K := (.ret (.call (fn_law_lowest T) (fno_law_lowest T) (.cons false (.op O2.add (.op O2.mul (.op O2.ixT (.var 0) (.int 0)) (.op O2.ixT (.var 1) (.int 1))) (.op O2.mul (.op O2.ixT (.var 1) (.int 0)) (.op O2.ixT (.var 0) (.int 1)))) (.cons false (.op O2.mul (.op O2.ixT (.var 0) (.int 1)) (.op O2.ixT (.var 1) (.int 1))) .nil))))
def fn_law_plus (T : Tx K mg) : Fn := ⟨2, false, fun as => runX (xs_law_plus T) false 0 as⟩
theorem fnf_law_plus (T : Tx K mg) (as : List Av) : (fn_law_plus T).f as = runX (xs_law_plus T) false 0 as := by unfold fn_law_plus; rfl
theorem fnm_law_plus (T : Tx K mg) : (fn_law_plus T).m = 2 := by unfold fn_law_plus; rfl
theorem fno_law_plus (T : Tx K mg) : (fn_law_plus T).own = false := by unfold fn_law_plus; rfl
def xs_law_times (T : Tx K mg) : XS K := (.ret (.call (fn_law_lowest T) (fno_law_lowest T) (.cons false (.op O2.mul (.op O2.ixT (.var 0) (.int 0)) (.op O2.ixT (.var 1) (.int 0))) (.cons false (.op O2.mul (.op O2.ixT (.var 0) (.int 1)) (.op O2.ixT (.var 1) (.int 1))) .nil))))
def fn_law_times (T : Tx K mg) : Fn := ⟨2, false, fun as => runX (xs_law_times T) false 0 as⟩
theorem fnf_law_times (T : Tx K mg) (as : List Av) : (fn_law_times T).f as = runX (xs_law_times T) false 0 as := by unfold fn_law_times; rfl
theorem fnm_law_times (T : Tx K mg) : (fn_law_times T).m = 2 := by unfold fn_law_times; rfl
theorem fno_law_times (T : Tx K mg) : (fn_law_times T).own = false := by unfold fn_law_times; rfl
def xs_law_less (T : Tx K mg) : XS K := (.ret (.op O2.lt (.op O2.mul (.op O2.ixT (.var 0) (.int 0)) (.op O2.ixT (.var 1) (.int 1))) (.op O2.mul (.op O2.ixT (.var 1) (.int 0)) (.op O2.ixT (.var 0) (.int 1)))))
def fn_law_less (T : Tx K mg) : Fn := ⟨2, false, fun as => runX (xs_law_less T) false 0 as⟩
theorem fnf_law_less (T : Tx K mg) (as : List Av) : (fn_law_less T).f as = runX (xs_law_less T) false 0 as := by unfold fn_law_less; rfl
theorem fnm_law_less (T : Tx K mg) : (fn_law_less T).m = 2 := by unfold fn_law_less; rfl
theorem fno_law_less (T : Tx K mg) : (fn_law_less T).own = false := by unfold fn_law_less; rfl
def xb_law_added_1 (T : Tx K mg) : XS K := (.set 1 (.call (fn_law_plus T) (fno_law_plus T) (.cons false (.var 1) (.cons false (.var 2) .nil))))
def xs_law_added (T : Tx K mg) : XS K := (.seq (.set 1 (.tup (.cons false (.int 0) (.cons false (.int 1) .nil))))
    (.seq (.for_ (.list (.var 0)) (.name 2) (xb_law_added_1 T))
    (.ret (.var 1))))
def fn_law_added (T : Tx K mg) : Fn := ⟨1, false, fun as => runX (xs_law_added T) false 2 as⟩
theorem fnf_law_added (T : Tx K mg) (as : List Av) : (fn_law_added T).f as = runX (xs_law_added T) false 2 as := by unfold fn_law_added; rfl
theorem fnm_law_added (T : Tx K mg) : (fn_law_added T).m = 1 := by unfold fn_law_added; rfl
theorem fno_law_added (T : Tx K mg) : (fn_law_added T).own = false := by unfold fn_law_added; rfl
def xu_law_refused (T : Tx K mg) (a : Addr) (cls : Value) (d : Option Addr) : XS K := (.ret (.tup (.cons false (.isX 3 a cls d T.c_ZeroDivisor T.kn T.kn_is) (.cons false (.errAt 3 a cls d T.kn T.kn_at) .nil))))
theorem xhp_law_refused (T : Tx K mg) : ∀ (a d C : Addr) (n : Int) (st : List Sv), mute ((xu_law_refused T a (.ref C) (some d)).ev (st.set 3 (.er a d n))) = mute ((xu_law_refused T 0 (.ref C) (some 0)).ev (st.set 3 (.er 0 0 n))) := by
  intro a d C n st
  unfold xu_law_refused
  by_cases hi : 3 < st.length
  · by_cases hk : C ∈ T.kn
    · cases hb : PySem.W.kitOne K (.ref C) (.ref T.c_ZeroDivisor) with
      | none => simp [XS.ret, XE.tup, XE.of, XA.dev, XA.cons, XA.nil, XE.av, XE.isX, XE.errAt, hi, hk, hb, Rs.bind, Rs.oc, Rs.of, mute]
      | some b => simp [XS.ret, XE.tup, XE.of, XA.dev, XA.cons, XA.nil, XE.av, XE.isX, XE.errAt, hi, hk, hb, Rs.bind, Rs.oc, Rs.of, mute, avD]
    · simp [XS.ret, XE.tup, XE.of, XA.dev, XA.cons, XA.nil, XE.av, XE.isX, XE.errAt, hi, hk, Rs.bind, Rs.oc, mute]
  · simp [XS.ret, XE.tup, XE.of, XA.dev, XA.cons, XA.nil, XE.av, XE.isX, XE.errAt, hi, Rs.bind, Rs.oc, mute]
def xh_law_refused (T : Tx K mg) : XH K 3 := XH.of 3 (xu_law_refused T) (fun C n st => mute ((xu_law_refused T 0 (.ref C) (some 0)).ev (st.set 3 (.er 0 0 n)))) (xhp_law_refused T)
def xs_law_refused (T : Tx K mg) : XS K := (.seq (.try_ 3 T.c_WebError (.ite (.test (.op O2.eq (.var 0) (.int 0)))
    (.drop (.call (fn_fraction T) (fno_fraction T) (.cons false (.var 1) (.cons false (.var 2) .nil))))
    (.drop (.call (fn_over T) (fno_over T) (.cons false (.var 1) (.cons false (.var 2) .nil))))) (xh_law_refused T))
    (.ret .non))
def fn_law_refused (T : Tx K mg) : Fn := ⟨3, false, fun as => runX (xs_law_refused T) false 1 as⟩
theorem fnf_law_refused (T : Tx K mg) (as : List Av) : (fn_law_refused T).f as = runX (xs_law_refused T) false 1 as := by unfold fn_law_refused; rfl
theorem fnm_law_refused (T : Tx K mg) : (fn_law_refused T).m = 3 := by unfold fn_law_refused; rfl
theorem fno_law_refused (T : Tx K mg) : (fn_law_refused T).own = false := by unfold fn_law_refused; rfl
def xs_law_pair (T : Tx K mg) : XS K := (.seq (.set 3 (.op O2.sub (.op O2.mod (.bi Bi.int (.cons false (.op O2.ixL (.var 1) (.op O2.mul (.int 2) (.var 2))) .nil)) (.int 41)) (.int 20)))
    (.seq (.set 4 (.op O2.sub (.op O2.mod (.bi Bi.int (.cons false (.op O2.ixL (.var 1) (.op O2.add (.op O2.mul (.int 2) (.var 2)) (.int 1))) .nil)) (.int 25)) (.int 12)))
    (.seq (.ite (.and (.test (.op O2.eq (.op O2.mod (.bi Bi.int (.cons false (.op O2.ixL (.var 1) (.op O2.add (.int 20) (.var 2))) .nil)) (.int 4)) (.int 0))) (.test (.op O2.gt (.bi Bi.len (.cons false (.var 0) .nil)) (.int 0))))
    (.seq (.set 3 (.op O2.sub (.op O2.mod (.bi Bi.int (.cons false (.op O2.ixS (.var 0) (.op O2.mod (.bi Bi.int (.cons false (.op O2.ixL (.var 1) (.op O2.add (.int 30) (.var 2))) .nil)) (.bi Bi.len (.cons false (.var 0) .nil)))) .nil)) (.op O2.shl (.int 1) (.int 300))) (.op O2.mod (.bi Bi.int (.cons false (.op O2.ixL (.var 1) (.var 2)) .nil)) (.int 3))))
    (.set 4 (.op O2.sub (.op O2.mod (.bi Bi.int (.cons false (.op O2.ixS (.var 0) (.op O2.mod (.bi Bi.int (.cons false (.op O2.ixL (.var 1) (.op O2.add (.int 31) (.var 2))) .nil)) (.bi Bi.len (.cons false (.var 0) .nil)))) .nil)) (.op O2.shl (.int 1) (.int 250))) (.int 5))))
    XS.nx)
    (.ret (.tup (.cons false (.var 3) (.cons false (.var 4) .nil)))))))
def fn_law_pair (T : Tx K mg) : Fn := ⟨3, false, fun as => runX (xs_law_pair T) false 2 as⟩
theorem fnf_law_pair (T : Tx K mg) (as : List Av) : (fn_law_pair T).f as = runX (xs_law_pair T) false 2 as := by unfold fn_law_pair; rfl
theorem fnm_law_pair (T : Tx K mg) : (fn_law_pair T).m = 3 := by unfold fn_law_pair; rfl
theorem fno_law_pair (T : Tx K mg) : (fn_law_pair T).own = false := by unfold fn_law_pair; rfl
def xs_law_good (T : Tx K mg) : XS K := (.ret (.andV (.op O2.ge (.op O2.ixT (.var 0) (.int 1)) (.int 1)) (.op O2.eqD (.call (fn_law_lowest T) (fno_law_lowest T) (.cons false (.op O2.ixT (.var 0) (.int 0)) (.cons false (.op O2.ixT (.var 0) (.int 1)) .nil))) (.var 0))))
def fn_law_good (T : Tx K mg) : Fn := ⟨1, false, fun as => runX (xs_law_good T) false 0 as⟩
theorem fnf_law_good (T : Tx K mg) (as : List Av) : (fn_law_good T).f as = runX (xs_law_good T) false 0 as := by unfold fn_law_good; rfl
theorem fnm_law_good (T : Tx K mg) : (fn_law_good T).m = 1 := by unfold fn_law_good; rfl
theorem fno_law_good (T : Tx K mg) : (fn_law_good T).own = false := by unfold fn_law_good; rfl
def xs_law_round (T : Tx K mg) : XS K := (.seq (.set 1 (.call (fn_floor T) (fno_floor T) (.cons false (.var 0) .nil)))
    (.seq (.set 2 (.call (fn_ceiling T) (fno_ceiling T) (.cons false (.var 0) .nil)))
    (.seq (.ite (.not (.test (.chain O2.le O2.lt (.op O2.mul (.var 1) (.op O2.ixT (.var 0) (.int 1))) (.op O2.ixT (.var 0) (.int 0)) (.op O2.mul (.op O2.add (.var 1) (.int 1)) (.op O2.ixT (.var 0) (.int 1))))))
    (.ret (.bool false))
    XS.nx)
    (.ret (.chain O2.lt O2.le (.op O2.mul (.op O2.sub (.var 2) (.int 1)) (.op O2.ixT (.var 0) (.int 1))) (.op O2.ixT (.var 0) (.int 0)) (.op O2.mul (.var 2) (.op O2.ixT (.var 0) (.int 1))))))))
def fn_law_round (T : Tx K mg) : Fn := ⟨1, false, fun as => runX (xs_law_round T) false 2 as⟩
theorem fnf_law_round (T : Tx K mg) (as : List Av) : (fn_law_round T).f as = runX (xs_law_round T) false 2 as := by unfold fn_law_round; rfl
theorem fnm_law_round (T : Tx K mg) : (fn_law_round T).m = 1 := by unfold fn_law_round; rfl
theorem fno_law_round (T : Tx K mg) : (fn_law_round T).own = false := by unfold fn_law_round; rfl
def xb_law_1 (T : Tx K mg) : XS K := (.seq (.asg (.tup (.cons (.name 4) (.cons (.name 5) .nil))) (.call (fn_law_pair T) (fno_law_pair T) (.cons false (.var 0) (.cons false (.var 1) (.cons false (.var 3) .nil)))))
    (.seq (.ite (.ife (.test (.op O2.ne (.var 5) (.int 0))) (.test (.op O2.neD (.call (fn_is_fraction T) (fno_is_fraction T) (.cons false (.tup (.cons false (.var 4) (.cons false (.var 5) .nil))) .nil)) (.call (fn_law_good T) (fno_law_good T) (.cons false (.tup (.cons false (.var 4) (.cons false (.var 5) .nil))) .nil)))) (.B (.call (fn_is_fraction T) (fno_is_fraction T) (.cons false (.tup (.cons false (.var 4) (.cons false (.var 5) .nil))) .nil))))
    (.ret (.bool false))
    XS.nx)
    (.seq (.ite (.test (.op O2.eq (.var 5) (.int 0)))
    (.seq (.ite (.test (.op O2.neD (.call (fn_law_refused T) (fno_law_refused T) (.cons false (.int 0) (.cons false (.var 4) (.cons false (.var 5) .nil)))) (.tup (.cons false (.bool true) (.cons false (.var 4) .nil)))))
    (.ret (.bool false))
    XS.nx)
    (.set 5 (.int 1)))
    XS.nx)
    (.seq (.set 6 (.call (fn_fraction T) (fno_fraction T) (.cons false (.var 4) (.cons false (.var 5) .nil))))
    (.seq (.ite (.or (.test (.op O2.neD (.var 6) (.call (fn_law_lowest T) (fno_law_lowest T) (.cons false (.var 4) (.cons false (.var 5) .nil))))) (.or (.not (.B (.call (fn_is_fraction T) (fno_is_fraction T) (.cons false (.var 6) .nil)))) (.B (.call (fn_is_fraction T) (fno_is_fraction T) (.cons false (.tup (.cons false (.op O2.mul (.int 2) (.op O2.ixT (.var 6) (.int 0))) (.cons false (.op O2.mul (.int 2) (.op O2.ixT (.var 6) (.int 1))) .nil))) .nil)))))
    (.ret (.bool false))
    XS.nx)
    (.seq (.ite (.not (.B (.call (fn_law_round T) (fno_law_round T) (.cons false (.var 6) .nil))))
    (.ret (.bool false))
    XS.nx)
    (.app 2 (.var 6))))))))
def xb_law_2 (T : Tx K mg) : XS K := (.seq (.par 6 7 (.cons false (.op O2.ixL (.var 2) (.var 3)) (.cons false (.op O2.ixL (.var 2) (.op O2.mod (.bi Bi.int (.cons false (.op O2.ixL (.var 1) (.op O2.add (.int 40) (.var 3))) .nil)) (.int 6))) .nil)))
    (.seq (.set 5 (.tup (.cons false (.neg (.op O2.ixT (.var 7) (.int 0))) (.cons false (.op O2.ixT (.var 7) (.int 1)) .nil))))
    (.seq (.ite (.or (.test (.op O2.neD (.call (fn_plus T) (fno_plus T) (.cons false (.var 6) (.cons false (.var 7) .nil))) (.call (fn_law_plus T) (fno_law_plus T) (.cons false (.var 6) (.cons false (.var 7) .nil))))) (.test (.op O2.neD (.call (fn_minus T) (fno_minus T) (.cons false (.var 6) (.cons false (.var 7) .nil))) (.call (fn_law_plus T) (fno_law_plus T) (.cons false (.var 6) (.cons false (.var 5) .nil))))))
    (.ret (.bool false))
    XS.nx)
    (.seq (.ite (.or (.test (.op O2.neD (.call (fn_times T) (fno_times T) (.cons false (.var 6) (.cons false (.var 7) .nil))) (.call (fn_law_times T) (fno_law_times T) (.cons false (.var 6) (.cons false (.var 7) .nil))))) (.test (.op O2.neD (.call (fn_is_less T) (fno_is_less T) (.cons false (.var 6) (.cons false (.var 7) .nil))) (.call (fn_law_less T) (fno_law_less T) (.cons false (.var 6) (.cons false (.var 7) .nil))))))
    (.ret (.bool false))
    XS.nx)
    (.ite (.test (.op O2.eq (.op O2.ixT (.var 7) (.int 0)) (.int 0)))
    (.ite (.test (.op O2.neD (.call (fn_law_refused T) (fno_law_refused T) (.cons false (.int 1) (.cons false (.var 6) (.cons false (.var 7) .nil)))) (.tup (.cons false (.bool true) (.cons false (.op O2.mul (.op O2.ixT (.var 6) (.int 0)) (.op O2.ixT (.var 7) (.int 1))) .nil)))))
    (.ret (.bool false))
    XS.nx)
    (.ite (.test (.op O2.neD (.call (fn_over T) (fno_over T) (.cons false (.var 6) (.cons false (.var 7) .nil))) (.call (fn_law_lowest T) (fno_law_lowest T) (.cons false (.op O2.mul (.op O2.ixT (.var 6) (.int 0)) (.op O2.ixT (.var 7) (.int 1))) (.cons false (.op O2.mul (.op O2.ixT (.var 6) (.int 1)) (.op O2.ixT (.var 7) (.int 0))) .nil)))))
    (.ret (.bool false))
    XS.nx))))))
def xs_law (T : Tx K mg) : XS K := (.seq (.set 1 (.call (fn_law_numbers T) (fno_law_numbers T) (.cons false (.var 0) (.cons false (.int 60) .nil))))
    (.seq (.setN 2 (.lst .nil))
    (.seq (.for_ (.range1 (.cons false (.int 6) .nil)) (.name 3) (xb_law_1 T))
    (.seq (.for_ (.range1 (.cons false (.int 6) .nil)) (.name 3) (xb_law_2 T))
    (.seq (.set 8 (XN.bi BiN.list (.cons true (.var 2) .nil)).e)
    (.frz 2 (.ret (.andV (.op O2.eqD (.call (fn_added T) (fno_added T) (.cons false (.var 2) .nil)) (.call (fn_law_added T) (fno_law_added T) (.cons false (.var 2) .nil))) (.andV (.op O2.eqD (.var 2) (.var 8)) (.op O2.eqD (.call (fn_added T) (fno_added T) (.cons false (XN.lst .nil).e .nil)) (.tup (.cons false (.int 0) (.cons false (.int 1) .nil)))))))))))))
def fn_law (T : Tx K mg) : Fn := ⟨1, false, fun as => runX (xs_law T) false 8 as⟩
theorem fnf_law (T : Tx K mg) (as : List Av) : (fn_law T).f as = runX (xs_law T) false 8 as := by unfold fn_law; rfl
theorem fnm_law (T : Tx K mg) : (fn_law T).m = 1 := by unfold fn_law; rfl
theorem fno_law (T : Tx K mg) : (fn_law T).own = false := by unfold fn_law; rfl
end
end Q

/-! fractions in lowest terms: plain mathematics -/
set_option linter.all false
namespace QF
def gI (p q : Int) : Int := ((Nat.gcd p.natAbs q.natAbs : Nat) : Int)
theorem gI_dl (p q : Int) : gI p q ∣ p := Int.natAbs_dvd_natAbs.mp (by show (gI p q).natAbs ∣ _; unfold gI; rw [Int.natAbs_natCast]; exact Nat.gcd_dvd_left _ _)
theorem gI_dr (p q : Int) : gI p q ∣ q := Int.natAbs_dvd_natAbs.mp (by show (gI p q).natAbs ∣ _; unfold gI; rw [Int.natAbs_natCast]; exact Nat.gcd_dvd_right _ _)
theorem gI_pos {p q : Int} (h : q ≠ 0) : 0 < gI p q := by
  unfold gI
  have : 0 < Nat.gcd p.natAbs q.natAbs := Nat.gcd_pos_of_pos_right _ (Int.natAbs_pos.mpr h)
  omega
theorem gI_le {p q : Int} (h : q ≠ 0) : gI p q ≤ (q.natAbs : Int) := by
  unfold gI
  have : Nat.gcd p.natAbs q.natAbs ≤ q.natAbs := Nat.le_of_dvd (Int.natAbs_pos.mpr h) (Nat.gcd_dvd_right _ _)
  omega
/-- p / q in lowest terms, the denominator above 0 -/
def low (p q : Int) : Int × Int := if q < 0 then (-p / gI p q, -q / gI p q) else (p / gI p q, q / gI p q)
structure IsF (x : Int × Int) : Prop where
  pos : 0 < x.2
  cop : Nat.gcd x.1.natAbs x.2.natAbs = 1
theorem low_val {p q : Int} (h : q ≠ 0) : (low p q).1 * q = p * (low p q).2 := by
  obtain ⟨a, ha⟩ := gI_dl p q
  obtain ⟨b, hb⟩ := gI_dr p q
  have g0 := gI_pos (p := p) h
  have hg : gI p q ≠ 0 := by omega
  unfold low
  generalize gI p q = g at *
  split
  · show -p / g * q = p * (-q / g)
    have e1 : -p / g = -a := by rw [ha, ← Int.mul_neg, Int.mul_ediv_cancel_left _ hg]
    have e2 : -q / g = -b := by rw [hb, ← Int.mul_neg, Int.mul_ediv_cancel_left _ hg]
    rw [e1, e2, ha, hb]
    grind
  · show p / g * q = p * (q / g)
    have e1 : p / g = a := by rw [ha, Int.mul_ediv_cancel_left _ hg]
    have e2 : q / g = b := by rw [hb, Int.mul_ediv_cancel_left _ hg]
    rw [e1, e2, ha, hb]
    grind
theorem low_is {p q : Int} (h : q ≠ 0) : IsF (low p q) := by
  have g0 := gI_pos (p := p) h
  have hd1 := gI_dl p q
  have hd2 := gI_dr p q
  have hgcd : ∀ x y : Int, x.natAbs = p.natAbs → y.natAbs = q.natAbs → Nat.gcd (x / gI p q).natAbs (y / gI p q).natAbs = 1 := by
    intro x y hx hy
    have dx : gI p q ∣ x := Int.natAbs_dvd_natAbs.mp (by rw [hx]; exact Int.natAbs_dvd_natAbs.mpr hd1)
    have dy : gI p q ∣ y := Int.natAbs_dvd_natAbs.mp (by rw [hy]; exact Int.natAbs_dvd_natAbs.mpr hd2)
    rw [Int.natAbs_ediv_of_dvd dx, Int.natAbs_ediv_of_dvd dy, hx, hy]
    have : (gI p q).natAbs = Nat.gcd p.natAbs q.natAbs := by unfold gI; rw [Int.natAbs_natCast]
    rw [this]
    exact Nat.coprime_div_gcd_div_gcd (Nat.gcd_pos_of_pos_right _ (Int.natAbs_pos.mpr h))
  unfold low
  split
  · refine ⟨?_, hgcd _ _ (Int.natAbs_neg _) (Int.natAbs_neg _)⟩
    show 0 < -q / gI p q
    have d : gI p q ∣ -q := (Int.dvd_neg).mpr hd2
    exact Int.ediv_pos_of_pos_of_dvd (by omega) (by omega) d
  · refine ⟨?_, hgcd _ _ rfl rfl⟩
    show 0 < q / gI p q
    exact Int.ediv_pos_of_pos_of_dvd (by omega) (by omega) hd2
theorem isF_ext {x y : Int × Int} (hx : IsF x) (hy : IsF y) (h : x.1 * y.2 = y.1 * x.2) : x = y := by
  have hn : x.1.natAbs * y.2.natAbs = y.1.natAbs * x.2.natAbs := by rw [← Int.natAbs_mul, ← Int.natAbs_mul, h]
  have d1 : x.2.natAbs ∣ y.2.natAbs := Nat.Coprime.dvd_of_dvd_mul_left (k := x.2.natAbs) (m := x.1.natAbs) (by rw [Nat.coprime_comm]; exact hx.cop) ⟨y.1.natAbs, by rw [hn, Nat.mul_comm]⟩
  have d2 : y.2.natAbs ∣ x.2.natAbs := Nat.Coprime.dvd_of_dvd_mul_left (k := y.2.natAbs) (m := y.1.natAbs) (by rw [Nat.coprime_comm]; exact hy.cop) ⟨x.1.natAbs, by rw [← hn, Nat.mul_comm]⟩
  have e := Nat.dvd_antisymm d1 d2
  have p1 := hx.pos
  have p2 := hy.pos
  have e2 : x.2 = y.2 := by omega
  have e1 : x.1 = y.1 := by
    rw [e2] at h
    exact Int.eq_of_mul_eq_mul_right (by omega) h
  exact Prod.ext e1 e2
theorem low_ext {p q p' q' : Int} (h : q ≠ 0) (h' : q' ≠ 0) (e : p * q' = p' * q) : low p q = low p' q' := by
  refine isF_ext (low_is h) (low_is h') ?_
  have v1 := low_val (p := p) h
  have v2 := low_val (p := p') h'
  refine Int.eq_of_mul_eq_mul_right h (Int.eq_of_mul_eq_mul_right h' ?_)
  generalize (low p q).1 = a at *
  generalize (low p q).2 = b at *
  generalize (low p' q').1 = c at *
  generalize (low p' q').2 = d at *
  calc a * d * q * q' = (a * q) * (d * q') := by grind
    _ = p * b * (d * q') := by rw [v1]
    _ = (p * q') * (b * d) := by grind
    _ = (p' * q) * (b * d) := by rw [e]
    _ = (p' * d) * (b * q) := by grind
    _ = (c * q') * (b * q) := by rw [v2]
    _ = c * b * q * q' := by grind
theorem low_self {x : Int × Int} (h : IsF x) : low x.1 x.2 = x := by
  have hp := h.pos
  exact isF_ext (low_is (by omega)) h (low_val (by omega))
theorem low_eq_iff {p q : Int} (h : 0 < q) : low p q = (p, q) ↔ Nat.gcd p.natAbs q.natAbs = 1 := by
  constructor
  · intro e
    have := low_is (p := p) (q := q) (by omega)
    rw [e] at this
    exact this.cop
  · intro e
    exact low_self (x := (p, q)) ⟨h, e⟩
theorem ediv_abs {a g : Int} (hg : 0 < g) (hd : g ∣ a) : (a / g).natAbs ≤ a.natAbs := by
  rw [Int.natAbs_ediv_of_dvd hd]
  exact Nat.div_le_self _ _
theorem low_bd1 {p q : Int} (h : q ≠ 0) : (low p q).1.natAbs ≤ p.natAbs := by
  have g0 := gI_pos (p := p) h
  unfold low
  split
  · refine Nat.le_trans (ediv_abs g0 ((Int.dvd_neg).mpr (gI_dl p q))) ?_
    rw [Int.natAbs_neg]; exact Nat.le_refl _
  · exact ediv_abs g0 (gI_dl p q)
theorem low_bd2 {p q : Int} (h : q ≠ 0) : (low p q).2.natAbs ≤ q.natAbs := by
  have g0 := gI_pos (p := p) h
  unfold low
  split
  · refine Nat.le_trans (ediv_abs g0 ((Int.dvd_neg).mpr (gI_dr p q))) ?_
    rw [Int.natAbs_neg]; exact Nat.le_refl _
  · exact ediv_abs g0 (gI_dr p q)
/-- the program's way: both divided by the common divisor with the denominator's sign -/
theorem low_fdiv {p q : Int} (h : q ≠ 0) : (p.fdiv (if q < 0 then -gI p q else gI p q), q.fdiv (if q < 0 then -gI p q else gI p q)) = low p q := by
  have g0 := gI_pos (p := p) h
  have d1 := gI_dl p q
  have d2 := gI_dr p q
  unfold low
  split
  · rw [Int.fdiv_eq_ediv_of_dvd ((Int.neg_dvd).mpr d1), Int.fdiv_eq_ediv_of_dvd ((Int.neg_dvd).mpr d2), Int.ediv_neg, Int.ediv_neg, Int.neg_ediv_of_dvd d1, Int.neg_ediv_of_dvd d2]
  · rw [Int.fdiv_eq_ediv_of_dvd d1, Int.fdiv_eq_ediv_of_dvd d2]
/-! Euclid -/
def euc : Nat → Nat → Nat → Nat × Nat
  | 0, a, b => (a, b)
  | n + 1, a, b => if b = 0 then (a, b) else euc n b (a % b)
theorem euc_done : ∀ (m n a b : Nat), b < 2 ^ m → 2 * m + 1 ≤ n → euc n a b = (Nat.gcd a b, 0)
  | 0, n, a, b, hb, hn => by
    have : b = 0 := by simpa using hb
    subst this
    match n, hn with
    | n + 1, _ => unfold euc; rw [if_pos rfl, Nat.gcd_zero_right]
  | m + 1, n, a, b, hb, hn => by
    match n, hn with
    | n + 2, hn =>
      unfold euc
      by_cases h0 : b = 0
      · rw [if_pos h0, h0, Nat.gcd_zero_right]
      · rw [if_neg h0]
        have hc : a % b < b := Nat.mod_lt _ (by omega)
        unfold euc
        by_cases h1 : a % b = 0
        · rw [if_pos h1, h1]
          have : Nat.gcd a b = b := by rw [Nat.gcd_comm, Nat.gcd_rec, h1, Nat.gcd_zero_left]
          rw [this]
        · rw [if_neg h1]
          have hd : b % (a % b) < a % b := Nat.mod_lt _ (by omega)
          have hd2 : b % (a % b) + (a % b) ≤ b := by
            have := Nat.div_add_mod b (a % b)
            have hq : 1 ≤ b / (a % b) := (Nat.one_le_div_iff (by omega)).mpr (by omega)
            have : (a % b) * 1 ≤ (a % b) * (b / (a % b)) := Nat.mul_le_mul_left _ hq
            omega
          rw [euc_done m n (a % b) (b % (a % b)) (by rw [Nat.pow_succ] at hb; omega) (by omega)]
          have e1 : Nat.gcd a b = Nat.gcd (a % b) (b % (a % b)) := by
            rw [Nat.gcd_comm a b, Nat.gcd_rec b a, Nat.gcd_rec (a % b) b, Nat.gcd_comm]
          rw [e1]
end QF

set_option Elab.async false
set_option linter.all false
set_option maxRecDepth 100000
set_option maxHeartbeats 4000000
namespace Q
open PySem PySem.Spec PyProof.Rows L2 Z R
section
variable {P : Program} {w : World} {K : PySem.W.Frag} {mg : Str → Option Value} {base : Heap}
theorem ok_WebError___init__ (T : Tx K mg) : FnOk P w K mg base (L2.CX P w) 1 T.f_WebError___init__ T.fd_WebError___init__ ["self", "at"] (spAt K) := by
  refine T.F_WebError___init__.okX sc_WebError___init__ (fun vs H Q E ⟨a, C, n, e, _⟩ => by rw [e]; rfl) (fun cdv A outer s H vs Q E hr h => ⟨_, (pss_one (ps_ost (pv 0) (pv 1))), pure_at vs H Q E h⟩)
theorem ok_fraction (T : Tx K mg) : FnOk P w K mg base (L2.CX P w) 3 T.f_fraction T.fd_fraction ["numerator", "denominator"] ((fn_fraction T).sp K) := by
  refine T.F_fraction.okX sc_fraction (SpA.len fun x => by rw [List.length_map]; exact x.2) (fun cdv A outer s H vs Q E hr h => ⟨_, (pss_cons (ps_if (pt_cmpR op_eq (pv 1) pe_int (nomark _))
        (pss_one (ps_raise rfl (takes_of rfl rfl rfl rfl) (pmk_oex T.x_ZeroDivisor.1 T.x_ZeroDivisor.2.2.1 T.x_ZeroDivisor.2.2.2.1 (ok_WebError___init__ T) (hr.mono (by decide)) T.b_WebError___init__ .nil pass_no (by rfl) T.x_ZeroDivisor.2.2.2.2 (pa_cons (pv 0) pa_nil))))
        pss_nil)
      (pss_cons (ps_set (i := 2) sc_fraction.nd rfl (by first | exact Or.inl rfl | exact Or.inr rfl) (pe_callBfun cr_gcd (by rfl) T.z_gcd (pa_cons (pv 0) (pa_cons (pv 1) pa_nil))))
      (pss_cons (ps_if (pt_cmpR op_lt (pv 1) pe_int (nomark _))
        (pss_one (ps_set (i := 2) sc_fraction.nd rfl (by first | exact Or.inl rfl | exact Or.inr rfl) (pe_un un_neg (pv 2))))
        pss_nil)
      (pss_one (ps_ret (pe_tup (pa_cons (pe_op op_fdivU (pv 0) (pv 2)) (pa_cons (pe_op op_fdivU (pv 1) (pv 2)) pa_nil)))))))), ?_⟩)
  exact Fn.run (xs_fraction T) N_fraction h (fun _ _ _ => rfl)
theorem ok_is_fraction (T : Tx K mg) : FnOk P w K mg base (L2.CX P w) 1 T.f_is_fraction T.fd_is_fraction ["pair"] ((fn_is_fraction T).sp K) := by
  refine T.F_is_fraction.okX sc_is_fraction (SpA.len fun x => by rw [List.length_map]; exact x.2) (fun cdv A outer s H vs Q E hr h => ⟨_, (pss_cons (ps_asg (pv 0) (kpg_tup K (n := 2) rfl (pgs_cons (pg_name (i := 1) sc_is_fraction.nd rfl (by first | exact Or.inl rfl | exact Or.inr rfl)) (pgs_cons (pg_name (i := 2) sc_is_fraction.nd rfl (by first | exact Or.inl rfl | exact Or.inr rfl)) pgs_nil))))
      (pss_one (ps_ret (pe_and (pe_cmpR op_ge (pv 2) pe_int (nomark _)) (pe_one (pe_cmpR op_eq (pe_callBfun cr_gcd (by rfl) T.z_gcd (pa_cons (pv 1) (pa_cons (pv 2) pa_nil))) pe_int (nomark _))))))), ?_⟩)
  exact Fn.run (xs_is_fraction T) N_is_fraction h (fun _ _ _ => rfl)
theorem ok_plus (T : Tx K mg) : FnOk P w K mg base (L2.CX P w) 4 T.f_plus T.fd_plus ["first", "second"] ((fn_plus T).sp K) := by
  refine T.F_plus.okX sc_plus (SpA.len fun x => by rw [List.length_map]; exact x.2) (fun cdv A outer s H vs Q E hr h => ⟨_, (pss_one (ps_ret (pe_call (ok_fraction T) (hr.mono (by decide)) (by rfl) T.g_fraction T.F_fraction.kp T.b_fraction .nil (passes_call (takes_of rfl rfl rfl rfl) fun _ _ _ _ z => z) (pa_cons (pe_op op_add (pe_op op_mulU (pe_ix (kix_tup K) (pv 0) pe_int (fun _ _ => rfl)) (pe_ix (kix_tup K) (pv 1) pe_int (fun _ _ => rfl))) (pe_op op_mulU (pe_ix (kix_tup K) (pv 1) pe_int (fun _ _ => rfl)) (pe_ix (kix_tup K) (pv 0) pe_int (fun _ _ => rfl)))) (pa_cons (pe_op op_mulU (pe_ix (kix_tup K) (pv 0) pe_int (fun _ _ => rfl)) (pe_ix (kix_tup K) (pv 1) pe_int (fun _ _ => rfl))) pa_nil))))), ?_⟩)
  exact Fn.run (xs_plus T) N_plus h (fun _ _ _ => rfl)
theorem ok_minus (T : Tx K mg) : FnOk P w K mg base (L2.CX P w) 4 T.f_minus T.fd_minus ["first", "second"] ((fn_minus T).sp K) := by
  refine T.F_minus.okX sc_minus (SpA.len fun x => by rw [List.length_map]; exact x.2) (fun cdv A outer s H vs Q E hr h => ⟨_, (pss_one (ps_ret (pe_call (ok_fraction T) (hr.mono (by decide)) (by rfl) T.g_fraction T.F_fraction.kp T.b_fraction .nil (passes_call (takes_of rfl rfl rfl rfl) fun _ _ _ _ z => z) (pa_cons (pe_op op_sub (pe_op op_mulU (pe_ix (kix_tup K) (pv 0) pe_int (fun _ _ => rfl)) (pe_ix (kix_tup K) (pv 1) pe_int (fun _ _ => rfl))) (pe_op op_mulU (pe_ix (kix_tup K) (pv 1) pe_int (fun _ _ => rfl)) (pe_ix (kix_tup K) (pv 0) pe_int (fun _ _ => rfl)))) (pa_cons (pe_op op_mulU (pe_ix (kix_tup K) (pv 0) pe_int (fun _ _ => rfl)) (pe_ix (kix_tup K) (pv 1) pe_int (fun _ _ => rfl))) pa_nil))))), ?_⟩)
  exact Fn.run (xs_minus T) N_minus h (fun _ _ _ => rfl)
theorem ok_times (T : Tx K mg) : FnOk P w K mg base (L2.CX P w) 4 T.f_times T.fd_times ["first", "second"] ((fn_times T).sp K) := by
  refine T.F_times.okX sc_times (SpA.len fun x => by rw [List.length_map]; exact x.2) (fun cdv A outer s H vs Q E hr h => ⟨_, (pss_one (ps_ret (pe_call (ok_fraction T) (hr.mono (by decide)) (by rfl) T.g_fraction T.F_fraction.kp T.b_fraction .nil (passes_call (takes_of rfl rfl rfl rfl) fun _ _ _ _ z => z) (pa_cons (pe_op op_mulU (pe_ix (kix_tup K) (pv 0) pe_int (fun _ _ => rfl)) (pe_ix (kix_tup K) (pv 1) pe_int (fun _ _ => rfl))) (pa_cons (pe_op op_mulU (pe_ix (kix_tup K) (pv 0) pe_int (fun _ _ => rfl)) (pe_ix (kix_tup K) (pv 1) pe_int (fun _ _ => rfl))) pa_nil))))), ?_⟩)
  exact Fn.run (xs_times T) N_times h (fun _ _ _ => rfl)
theorem ok_over (T : Tx K mg) : FnOk P w K mg base (L2.CX P w) 4 T.f_over T.fd_over ["first", "second"] ((fn_over T).sp K) := by
  refine T.F_over.okX sc_over (SpA.len fun x => by rw [List.length_map]; exact x.2) (fun cdv A outer s H vs Q E hr h => ⟨_, (pss_one (ps_ret (pe_call (ok_fraction T) (hr.mono (by decide)) (by rfl) T.g_fraction T.F_fraction.kp T.b_fraction .nil (passes_call (takes_of rfl rfl rfl rfl) fun _ _ _ _ z => z) (pa_cons (pe_op op_mulU (pe_ix (kix_tup K) (pv 0) pe_int (fun _ _ => rfl)) (pe_ix (kix_tup K) (pv 1) pe_int (fun _ _ => rfl))) (pa_cons (pe_op op_mulU (pe_ix (kix_tup K) (pv 0) pe_int (fun _ _ => rfl)) (pe_ix (kix_tup K) (pv 1) pe_int (fun _ _ => rfl))) pa_nil))))), ?_⟩)
  exact Fn.run (xs_over T) N_over h (fun _ _ _ => rfl)
theorem ok_is_less (T : Tx K mg) : FnOk P w K mg base (L2.CX P w) 1 T.f_is_less T.fd_is_less ["first", "second"] ((fn_is_less T).sp K) := by
  refine T.F_is_less.okX sc_is_less (SpA.len fun x => by rw [List.length_map]; exact x.2) (fun cdv A outer s H vs Q E hr h => ⟨_, (pss_one (ps_ret (pe_cmpR op_lt (pe_op op_mulU (pe_ix (kix_tup K) (pv 0) pe_int (fun _ _ => rfl)) (pe_ix (kix_tup K) (pv 1) pe_int (fun _ _ => rfl))) (pe_op op_mulU (pe_ix (kix_tup K) (pv 1) pe_int (fun _ _ => rfl)) (pe_ix (kix_tup K) (pv 0) pe_int (fun _ _ => rfl))) (nomark _)))), ?_⟩)
  exact Fn.run (xs_is_less T) N_is_less h (fun _ _ _ => rfl)
theorem ok_floor (T : Tx K mg) : FnOk P w K mg base (L2.CX P w) 1 T.f_floor T.fd_floor ["pair"] ((fn_floor T).sp K) := by
  refine T.F_floor.okX sc_floor (SpA.len fun x => by rw [List.length_map]; exact x.2) (fun cdv A outer s H vs Q E hr h => ⟨_, (pss_one (ps_ret (pe_op op_fdivW (pe_ix (kix_tup K) (pv 0) pe_int (fun _ _ => rfl)) (pe_ix (kix_tup K) (pv 0) pe_int (fun _ _ => rfl))))), ?_⟩)
  exact Fn.run (xs_floor T) N_floor h (fun _ _ _ => rfl)
theorem ok_ceiling (T : Tx K mg) : FnOk P w K mg base (L2.CX P w) 1 T.f_ceiling T.fd_ceiling ["pair"] ((fn_ceiling T).sp K) := by
  refine T.F_ceiling.okX sc_ceiling (SpA.len fun x => by rw [List.length_map]; exact x.2) (fun cdv A outer s H vs Q E hr h => ⟨_, (pss_one (ps_ret (pe_un un_neg (pe_op op_fdivW (pe_un un_neg (pe_ix (kix_tup K) (pv 0) pe_int (fun _ _ => rfl))) (pe_ix (kix_tup K) (pv 0) pe_int (fun _ _ => rfl)))))), ?_⟩)
  exact Fn.run (xs_ceiling T) N_ceiling h (fun _ _ _ => rfl)
theorem ok_scaled (T : Tx K mg) : FnOk P w K mg base (L2.CX P w) 1 T.f_scaled T.fd_scaled ["fractions"] ((fn_scaled T).sp K) := by
  refine T.F_scaled.okX sc_scaled (SpA.len fun x => by rw [List.length_map]; exact x.2) (fun cdv A outer s H vs Q E hr h => ⟨_, (pss_cons (ps_set (i := 1) sc_scaled.nd rfl (by first | exact Or.inl rfl | exact Or.inr rfl) pe_int)
      (pss_cons (ps_for (passes_of rfl) rfl (kpi_list K (pv 0)) (pg_name (i := 2) sc_scaled.nd rfl (by first | exact Or.inl rfl | exact Or.inr rfl))
        (pss_one (ps_set (i := 1) sc_scaled.nd rfl (by first | exact Or.inl rfl | exact Or.inr rfl) (pe_callBfun cr_lcm (by rfl) T.z_lcm (pa_cons (pv 1) (pa_cons (pe_ix (kix_tup K) (pv 2) pe_int (fun _ _ => rfl)) pa_nil))))))
      (pss_one (ps_ret (pe_tup (pa_cons (pe_lc (own := [("pair", 2)]) (g := (gName 2)) rfl sc_scaled.nd (kpi_list K (pv 0)) (blkOk_by (N := N_scaled) (sc := defScope s_scaled) (by decide +kernel)) (fun _ _ _ _ _ => (pg_name (i := 2) sc_scaled.nd rfl (by first | exact Or.inl rfl | exact Or.inr rfl))) (fun _ _ _ _ _ => pts_nil) (fun _ _ _ _ _ => (pe_op op_mulU (pe_ix (kix_tup K) (pv 2) pe_int (fun _ _ => rfl)) (pe_op op_fdivW (pv 1) (pe_ix (kix_tup K) (pv 2) pe_int (fun _ _ => rfl)))))) (pa_cons (pv 1) pa_nil))))))), ?_⟩)
  exact Fn.run (xs_scaled T) N_scaled h (fun _ _ _ => rfl)
theorem ok_added (T : Tx K mg) : FnOk P w K mg base (L2.CX P w) 4 T.f_added T.fd_added ["fractions"] ((fn_added T).sp K) := by
  refine T.F_added.okX sc_added (SpA.len fun x => by rw [List.length_map]; exact x.2) (fun cdv A outer s H vs Q E hr h => ⟨_, (pss_cons (ps_asg (pe_call (ok_scaled T) (hr.mono (by decide)) (by rfl) T.g_scaled T.F_scaled.kp T.b_scaled .nil (passes_call (takes_of rfl rfl rfl rfl) fun _ _ _ _ z => z) (pa_cons (pv 0) pa_nil)) (kpg_tup K (n := 2) rfl (pgs_cons (pg_name (i := 1) sc_added.nd rfl (by first | exact Or.inl rfl | exact Or.inr rfl)) (pgs_cons (pg_name (i := 2) sc_added.nd rfl (by first | exact Or.inl rfl | exact Or.inr rfl)) pgs_nil))))
      (pss_one (ps_ret (pe_call (ok_fraction T) (hr.mono (by decide)) (by rfl) T.g_fraction T.F_fraction.kp T.b_fraction .nil (passes_call (takes_of rfl rfl rfl rfl) fun _ _ _ _ z => z) (pa_cons (pe_callB (kcall_sum K rfl) (by rfl) T.z_sum (by decide +kernel) (pa_cons (pv 1) pa_nil)) (pa_cons (pv 2) pa_nil)))))), ?_⟩)
  exact Fn.run (xs_added T) N_added h (fun _ _ _ => rfl)
theorem ok_law_numbers (T : Tx K mg) : FnOk P w K mg base (L2.CX P w) 1 T.f_law_numbers T.fd_law_numbers ["script", "many"] ((fn_law_numbers T).sp K) := by
  refine T.F_law_numbers.okX sc_law_numbers (SpA.len fun x => by rw [List.length_map]; exact x.2) (fun cdv A outer s H vs Q E hr h => ⟨_, (pss_cons (ps_set (i := 2) sc_law_numbers.nd rfl (by first | exact Or.inl rfl | exact Or.inr rfl) (pe_op op_cat (pe_lc (own := [("cell", 7)]) (g := (gName 7)) rfl sc_law_numbers.nd (kpi_list K (pe_slice (ksl_list K) (pv 0) po_none (po_some pe_int))) (blkOk_by (N := N_law_numbers) (sc := defScope s_law_numbers) (by decide +kernel)) (fun _ _ _ _ _ => (pg_name (i := 7) sc_law_numbers.nd rfl (by first | exact Or.inl rfl | exact Or.inr rfl))) (fun _ _ _ _ _ => pts_nil) (fun _ _ _ _ _ => (pe_callB call_abs (by rfl) T.z_abs (by decide +kernel) (pa_cons (pv 7) pa_nil)))) (pe_lst (pa_cons pe_int pa_nil))))
      (pss_cons (ps_if (pt_cmpR op_gt (pe_callB (kcall_len K) (by rfl) T.z_len PySem.boot_len (pa_cons (pv 0) pa_nil)) pe_int (nomark _))
        (pss_one (ps_set (i := 2) sc_law_numbers.nd rfl (by first | exact Or.inl rfl | exact Or.inr rfl) (pe_slice (ksl_list K) (pv 2) po_none (po_some (pe_un un_neg pe_int)))))
        pss_nil)
      (pss_cons (ps_setLc (i := 3) (own := [("cell", 7)]) (g := (gName 7)) rfl sc_law_numbers.nd rfl rfl (sw_true rfl rfl rfl (by decide +kernel)) (kpi_list K (pv 2)) (blkOk_by (N := N_law_numbers) (sc := defScope s_law_numbers) (by decide +kernel)) (fun _ _ _ _ _ => (pg_name (i := 7) sc_law_numbers.nd rfl (by first | exact Or.inl rfl | exact Or.inr rfl))) (fun _ _ _ _ _ => pts_nil) (fun _ _ _ _ _ => (pe_op op_mod (pe_callTy call_int1 (by rfl) T.z_int (by decide +kernel) (pa_cons (pe_op op_add (pe_op op_mulU (pv 7) pe_int) pe_int) pa_nil)) pe_int)))
      (pss_cons (ps_set (i := 4) sc_law_numbers.nd rfl (by first | exact Or.inl rfl | exact Or.inr rfl) (pe_lst pa_nil))
      (pss_cons (ps_for (passes_of rfl) rfl (pi_range1 (by rfl) T.z_range (pa_cons (pv 1) pa_nil)) (pg_name (i := 5) sc_law_numbers.nd rfl (by first | exact Or.inl rfl | exact Or.inr rfl))
        (pss_cons (ps_set (i := 6) sc_law_numbers.nd rfl (by first | exact Or.inl rfl | exact Or.inr rfl) (pe_op op_mod (pe_callTy call_int1 (by rfl) T.z_int (by decide +kernel) (pa_cons (pv 5) pa_nil)) (pe_callB (kcall_len K) (by rfl) T.z_len PySem.boot_len (pa_cons (pv 2) pa_nil))))
      (pss_one (ps_if (pt_cmpR op_ge (pe_ix (kix_list K) (pv 2) (pv 6) (fun _ _ => rfl)) (pe_op op_pow pe_int pe_int) (nomark _))
        (pss_cons (ps_expr (pe_bm PySem.F.plainAttrs_list PySem.F.slot_list_append PySem.F.type_list_append mt_append (pv 4) (pa_cons (pe_op op_mod (pe_callTy call_int1 (by rfl) T.z_int (by decide +kernel) (pa_cons (pe_ix (kix_list K) (pv 2) (pv 6) (fun _ _ => rfl)) pa_nil)) pe_int) pa_nil)))
      (pss_one (ps_asg (pe_op op_fdivW (pe_ix (kix_list K) (pv 2) (pv 6) (fun _ _ => rfl)) pe_int) (pg_sub (pv 2) (pv 6) set_list))))
        (pss_cons (ps_asg (pe_op op_mod (pe_callTy call_int1 (by rfl) T.z_int (by decide +kernel) (pa_cons (pe_op op_add (pe_op op_add (pe_op op_mulU (pe_ix (kix_list K) (pv 3) (pv 6) (fun _ _ => rfl)) pe_int) pe_int) (pe_op op_mulU pe_int (pv 5))) pa_nil)) pe_int) (pg_sub (pv 3) (pv 6) set_list))
      (pss_one (ps_expr (pe_bm PySem.F.plainAttrs_list PySem.F.slot_list_append PySem.F.type_list_append mt_append (pv 4) (pa_cons (pe_op op_mod (pe_callTy call_int1 (by rfl) T.z_int (by decide +kernel) (pa_cons (pe_op op_add (pe_ix (kix_list K) (pv 2) (pv 6) (fun _ _ => rfl)) (pe_op op_fdivW (pe_ix (kix_list K) (pv 3) (pv 6) (fun _ _ => rfl)) pe_int)) pa_nil)) pe_int) pa_nil)))))))))
      (pss_one (ps_ret (pv 4)))))))), ?_⟩)
  exact Fn.run (xs_law_numbers T) N_law_numbers h (fun _ _ _ => rfl)
theorem ok_law_lowest (T : Tx K mg) : FnOk P w K mg base (L2.CX P w) 1 T.f_law_lowest T.fd_law_lowest ["p", "q"] ((fn_law_lowest T).sp K) := by
  refine T.F_law_lowest.okX sc_law_lowest (SpA.len fun x => by rw [List.length_map]; exact x.2) (fun cdv A outer s H vs Q E hr h => ⟨_, (pss_cons (ps_if (pt_cmpR op_lt (pv 1) pe_int (nomark _))
        (pss_one (ps_par (i := 0) (j := 1) rfl sc_law_lowest.nd rfl rfl (by decide) rfl rfl (pa_cons (pe_un un_neg (pv 0)) (pa_cons (pe_un un_neg (pv 1)) pa_nil)) (by rfl)))
        pss_nil)
      (pss_cons (ps_par (i := 2) (j := 3) rfl sc_law_lowest.nd rfl rfl (by decide) rfl rfl (pa_cons (pe_callB call_abs (by rfl) T.z_abs (by decide +kernel) (pa_cons (pv 0) pa_nil)) (pa_cons (pv 1) pa_nil)) (by rfl))
      (pss_cons (ps_for (passes_of rfl) rfl (pi_range1 (by rfl) T.z_range (pa_cons pe_int pa_nil)) (pg_name (i := 4) sc_law_lowest.nd rfl (by first | exact Or.inl rfl | exact Or.inr rfl))
        (pss_cons (ps_if (pt_cmpR op_eq (pv 3) pe_int (nomark _))
        (pss_one ps_break)
        pss_nil)
      (pss_one (ps_par (i := 2) (j := 3) rfl sc_law_lowest.nd rfl rfl (by decide) rfl rfl (pa_cons (pv 3) (pa_cons (pe_op op_mod (pe_callTy call_int1 (by rfl) T.z_int (by decide +kernel) (pa_cons (pv 2) pa_nil)) (pv 3)) pa_nil)) (by rfl)))))
      (pss_one (ps_ret (pe_tup (pa_cons (pe_op op_fdivW (pv 0) (pv 2)) (pa_cons (pe_op op_fdivW (pv 1) (pv 2)) pa_nil)))))))), ?_⟩)
  exact Fn.run (xs_law_lowest T) N_law_lowest h (fun _ _ _ => rfl)
theorem ok_law_plus (T : Tx K mg) : FnOk P w K mg base (L2.CX P w) 2 T.f_law_plus T.fd_law_plus ["first", "second"] ((fn_law_plus T).sp K) := by
  refine T.F_law_plus.okX sc_law_plus (SpA.len fun x => by rw [List.length_map]; exact x.2) (fun cdv A outer s H vs Q E hr h => ⟨_, (pss_one (ps_ret (pe_call (ok_law_lowest T) (hr.mono (by decide)) (by rfl) T.g_law_lowest T.F_law_lowest.kp T.b_law_lowest .nil (passes_call (takes_of rfl rfl rfl rfl) fun _ _ _ _ z => z) (pa_cons (pe_op op_add (pe_op op_mulU (pe_ix (kix_tup K) (pv 0) pe_int (fun _ _ => rfl)) (pe_ix (kix_tup K) (pv 1) pe_int (fun _ _ => rfl))) (pe_op op_mulU (pe_ix (kix_tup K) (pv 1) pe_int (fun _ _ => rfl)) (pe_ix (kix_tup K) (pv 0) pe_int (fun _ _ => rfl)))) (pa_cons (pe_op op_mulU (pe_ix (kix_tup K) (pv 0) pe_int (fun _ _ => rfl)) (pe_ix (kix_tup K) (pv 1) pe_int (fun _ _ => rfl))) pa_nil))))), ?_⟩)
  exact Fn.run (xs_law_plus T) N_law_plus h (fun _ _ _ => rfl)
theorem ok_law_times (T : Tx K mg) : FnOk P w K mg base (L2.CX P w) 2 T.f_law_times T.fd_law_times ["first", "second"] ((fn_law_times T).sp K) := by
  refine T.F_law_times.okX sc_law_times (SpA.len fun x => by rw [List.length_map]; exact x.2) (fun cdv A outer s H vs Q E hr h => ⟨_, (pss_one (ps_ret (pe_call (ok_law_lowest T) (hr.mono (by decide)) (by rfl) T.g_law_lowest T.F_law_lowest.kp T.b_law_lowest .nil (passes_call (takes_of rfl rfl rfl rfl) fun _ _ _ _ z => z) (pa_cons (pe_op op_mulU (pe_ix (kix_tup K) (pv 0) pe_int (fun _ _ => rfl)) (pe_ix (kix_tup K) (pv 1) pe_int (fun _ _ => rfl))) (pa_cons (pe_op op_mulU (pe_ix (kix_tup K) (pv 0) pe_int (fun _ _ => rfl)) (pe_ix (kix_tup K) (pv 1) pe_int (fun _ _ => rfl))) pa_nil))))), ?_⟩)
  exact Fn.run (xs_law_times T) N_law_times h (fun _ _ _ => rfl)
theorem ok_law_less (T : Tx K mg) : FnOk P w K mg base (L2.CX P w) 1 T.f_law_less T.fd_law_less ["first", "second"] ((fn_law_less T).sp K) := by
  refine T.F_law_less.okX sc_law_less (SpA.len fun x => by rw [List.length_map]; exact x.2) (fun cdv A outer s H vs Q E hr h => ⟨_, (pss_one (ps_ret (pe_cmpR op_lt (pe_op op_mulU (pe_ix (kix_tup K) (pv 0) pe_int (fun _ _ => rfl)) (pe_ix (kix_tup K) (pv 1) pe_int (fun _ _ => rfl))) (pe_op op_mulU (pe_ix (kix_tup K) (pv 1) pe_int (fun _ _ => rfl)) (pe_ix (kix_tup K) (pv 0) pe_int (fun _ _ => rfl))) (nomark _)))), ?_⟩)
  exact Fn.run (xs_law_less T) N_law_less h (fun _ _ _ => rfl)
theorem ok_law_added (T : Tx K mg) : FnOk P w K mg base (L2.CX P w) 3 T.f_law_added T.fd_law_added ["rows"] ((fn_law_added T).sp K) := by
  refine T.F_law_added.okX sc_law_added (SpA.len fun x => by rw [List.length_map]; exact x.2) (fun cdv A outer s H vs Q E hr h => ⟨_, (pss_cons (ps_set (i := 1) sc_law_added.nd rfl (by first | exact Or.inl rfl | exact Or.inr rfl) (pe_tup (pa_cons pe_int (pa_cons pe_int pa_nil))))
      (pss_cons (ps_for (passes_of rfl) rfl (kpi_list K (pv 0)) (pg_name (i := 2) sc_law_added.nd rfl (by first | exact Or.inl rfl | exact Or.inr rfl))
        (pss_one (ps_set (i := 1) sc_law_added.nd rfl (by first | exact Or.inl rfl | exact Or.inr rfl) (pe_call (ok_law_plus T) (hr.mono (by decide)) (by rfl) T.g_law_plus T.F_law_plus.kp T.b_law_plus .nil (passes_call (takes_of rfl rfl rfl rfl) fun _ _ _ _ z => z) (pa_cons (pv 1) (pa_cons (pv 2) pa_nil))))))
      (pss_one (ps_ret (pv 1))))), ?_⟩)
  exact Fn.run (xs_law_added T) N_law_added h (fun _ _ _ => rfl)
theorem ok_law_refused (T : Tx K mg) : FnOk P w K mg base (L2.CX P w) 5 T.f_law_refused T.fd_law_refused ["way", "one", "two"] ((fn_law_refused T).sp K) := by
  refine T.F_law_refused.okX sc_law_refused (SpA.len fun x => by rw [List.length_map]; exact x.2) (fun cdv A outer s H vs Q E hr h => ⟨_, (pss_cons (ps_try_as (i := 3) rfl rfl sc_law_refused.nd rfl rfl ⟨rfl, by decide, .inl T.x_WebError.2.2.2.2⟩ (takes_of rfl rfl rfl rfl) (fun W pn xe tk hpx => (pss_one (ps_if (pt_cmpR op_eq (pv 0) pe_int (nomark _))
        (pss_one (ps_expr (pe_callS (ok_fraction T) (hr.mono (by decide)) (by rfl) T.g_fraction T.F_fraction.kp T.b_fraction (fun σ => passAt tk σ) (pa_cons (pv 1) (pa_cons (pv 2) pa_nil)))))
        (pss_one (ps_expr (pe_callS (ok_over T) (hr.mono (by decide)) (by rfl) T.g_over T.F_over.kp T.b_over (fun σ => passAt tk σ) (pa_cons (pv 1) (pa_cons (pv 2) pa_nil))))))))
        (fun a oe cls d pn hz hf => (pss_one (ps_ret (pe_tup (pa_cons (pe_callB (call_isX hz hf) (by rfl) T.z_isinstance (by decide +kernel) (pa_cons (pv 3) (pa_cons (pe_glob (v := .ref T.c_ZeroDivisor) (by rfl) T.x_ZeroDivisor.2.2.2.2 rfl) pa_nil))) (pa_cons (pe_xg hz hf (pv 3)) pa_nil)))))))
      (pss_one (ps_ret pe_non))), ?_⟩)
  exact Fn.run (xs_law_refused T) N_law_refused h (fun _ _ _ => rfl)
theorem ok_law_pair (T : Tx K mg) : FnOk P w K mg base (L2.CX P w) 1 T.f_law_pair T.fd_law_pair ["script", "numbers", "k"] ((fn_law_pair T).sp K) := by
  refine T.F_law_pair.okX sc_law_pair (SpA.len fun x => by rw [List.length_map]; exact x.2) (fun cdv A outer s H vs Q E hr h => ⟨_, (pss_cons (ps_set (i := 3) sc_law_pair.nd rfl (by first | exact Or.inl rfl | exact Or.inr rfl) (pe_op op_sub (pe_op op_mod (pe_callTy call_int1 (by rfl) T.z_int (by decide +kernel) (pa_cons (pe_ix (kix_list K) (pv 1) (pe_op op_mulU pe_int (pv 2)) (fun _ _ => rfl)) pa_nil)) pe_int) pe_int))
      (pss_cons (ps_set (i := 4) sc_law_pair.nd rfl (by first | exact Or.inl rfl | exact Or.inr rfl) (pe_op op_sub (pe_op op_mod (pe_callTy call_int1 (by rfl) T.z_int (by decide +kernel) (pa_cons (pe_ix (kix_list K) (pv 1) (pe_op op_add (pe_op op_mulU pe_int (pv 2)) pe_int) (fun _ _ => rfl)) pa_nil)) pe_int) pe_int))
      (pss_cons (ps_if (PW.pt (pw_and (pt_cmpR op_eq (pe_op op_mod (pe_callTy call_int1 (by rfl) T.z_int (by decide +kernel) (pa_cons (pe_ix (kix_list K) (pv 1) (pe_op op_add pe_int (pv 2)) (fun _ _ => rfl)) pa_nil)) pe_int) pe_int (nomark _)) (pw_and1 (pt_cmpR op_gt (pe_callB (kcall_len K) (by rfl) T.z_len PySem.boot_len (pa_cons (pv 0) pa_nil)) pe_int (nomark _)))))
        (pss_cons (ps_set (i := 3) sc_law_pair.nd rfl (by first | exact Or.inl rfl | exact Or.inr rfl) (pe_op op_sub (pe_op op_mod (pe_callTy call_int1 (by rfl) T.z_int (by decide +kernel) (pa_cons (pe_ix (kix_list K) (pv 0) (pe_op op_mod (pe_callTy call_int1 (by rfl) T.z_int (by decide +kernel) (pa_cons (pe_ix (kix_list K) (pv 1) (pe_op op_add pe_int (pv 2)) (fun _ _ => rfl)) pa_nil)) (pe_callB (kcall_len K) (by rfl) T.z_len PySem.boot_len (pa_cons (pv 0) pa_nil))) (fun _ _ => rfl)) pa_nil)) (pe_op op_shl pe_int pe_int)) (pe_op op_mod (pe_callTy call_int1 (by rfl) T.z_int (by decide +kernel) (pa_cons (pe_ix (kix_list K) (pv 1) (pv 2) (fun _ _ => rfl)) pa_nil)) pe_int)))
      (pss_one (ps_set (i := 4) sc_law_pair.nd rfl (by first | exact Or.inl rfl | exact Or.inr rfl) (pe_op op_sub (pe_op op_mod (pe_callTy call_int1 (by rfl) T.z_int (by decide +kernel) (pa_cons (pe_ix (kix_list K) (pv 0) (pe_op op_mod (pe_callTy call_int1 (by rfl) T.z_int (by decide +kernel) (pa_cons (pe_ix (kix_list K) (pv 1) (pe_op op_add pe_int (pv 2)) (fun _ _ => rfl)) pa_nil)) (pe_callB (kcall_len K) (by rfl) T.z_len PySem.boot_len (pa_cons (pv 0) pa_nil))) (fun _ _ => rfl)) pa_nil)) (pe_op op_shl pe_int pe_int)) pe_int))))
        pss_nil)
      (pss_one (ps_ret (pe_tup (pa_cons (pv 3) (pa_cons (pv 4) pa_nil)))))))), ?_⟩)
  exact Fn.run (xs_law_pair T) N_law_pair h (fun _ _ _ => rfl)
theorem ok_law_good (T : Tx K mg) : FnOk P w K mg base (L2.CX P w) 2 T.f_law_good T.fd_law_good ["one"] ((fn_law_good T).sp K) := by
  refine T.F_law_good.okX sc_law_good (SpA.len fun x => by rw [List.length_map]; exact x.2) (fun cdv A outer s H vs Q E hr h => ⟨_, (pss_one (ps_ret (pe_and (pe_cmpR op_ge (pe_ix (kix_tup K) (pv 0) pe_int (fun _ _ => rfl)) pe_int (nomark _)) (pe_one (pe_cmpR (kop_eqD K (Z.room64 hr)) (pe_call (ok_law_lowest T) (hr.mono (by decide)) (by rfl) T.g_law_lowest T.F_law_lowest.kp T.b_law_lowest .nil (passes_call (takes_of rfl rfl rfl rfl) fun _ _ _ _ z => z) (pa_cons (pe_ix (kix_tup K) (pv 0) pe_int (fun _ _ => rfl)) (pa_cons (pe_ix (kix_tup K) (pv 0) pe_int (fun _ _ => rfl)) pa_nil))) (pv 0) (nomark _)))))), ?_⟩)
  exact Fn.run (xs_law_good T) N_law_good h (fun _ _ _ => rfl)
theorem ok_law_round (T : Tx K mg) : FnOk P w K mg base (L2.CX P w) 2 T.f_law_round T.fd_law_round ["one"] ((fn_law_round T).sp K) := by
  refine T.F_law_round.okX sc_law_round (SpA.len fun x => by rw [List.length_map]; exact x.2) (fun cdv A outer s H vs Q E hr h => ⟨_, (pss_cons (ps_set (i := 1) sc_law_round.nd rfl (by first | exact Or.inl rfl | exact Or.inr rfl) (pe_call (ok_floor T) (hr.mono (by decide)) (by rfl) T.g_floor T.F_floor.kp T.b_floor .nil (passes_call (takes_of rfl rfl rfl rfl) fun _ _ _ _ z => z) (pa_cons (pv 0) pa_nil)))
      (pss_cons (ps_set (i := 2) sc_law_round.nd rfl (by first | exact Or.inl rfl | exact Or.inr rfl) (pe_call (ok_ceiling T) (hr.mono (by decide)) (by rfl) T.g_ceiling T.F_ceiling.kp T.b_ceiling .nil (passes_call (takes_of rfl rfl rfl rfl) fun _ _ _ _ z => z) (pa_cons (pv 0) pa_nil)))
      (pss_cons (ps_if (pt_not (pt_chain op_le op_lt (pe_op op_mulU (pv 1) (pe_ix (kix_tup K) (pv 0) pe_int (fun _ _ => rfl))) (pe_ix (kix_tup K) (pv 0) pe_int (fun _ _ => rfl)) (pe_op op_mulU (pe_op op_add (pv 1) pe_int) (pe_ix (kix_tup K) (pv 0) pe_int (fun _ _ => rfl)))))
        (pss_one (ps_ret pe_bl))
        pss_nil)
      (pss_one (ps_ret (pe_chain op_lt op_le (pe_op op_mulU (pe_op op_sub (pv 2) pe_int) (pe_ix (kix_tup K) (pv 0) pe_int (fun _ _ => rfl))) (pe_ix (kix_tup K) (pv 0) pe_int (fun _ _ => rfl)) (pe_op op_mulU (pv 2) (pe_ix (kix_tup K) (pv 0) pe_int (fun _ _ => rfl))))))))), ?_⟩)
  exact Fn.run (xs_law_round T) N_law_round h (fun _ _ _ => rfl)
end
end Q

set_option Elab.async false
set_option linter.all false
set_option maxRecDepth 100000
set_option maxHeartbeats 4000000
namespace Q
open PySem PySem.Spec PyProof.Rows L2 Z R QF
local macro_rules | `(tactic| walk_at "ds") => `(tactic| first | assumption | decide | omega | exact ⟨by decide, by decide⟩ | exact ⟨by omega, by omega⟩ | exact div_lit ⟨by omega, by omega⟩ | exact mul_r (by omega) | exact mul_l (by omega))
local macro_rules | `(tactic| walk_at "ev") => `(tactic| simp (disch := walk_at "ds") only [bind_ok, bind_ex, bind_no, oc_k, oc_x, oc_n, of_some, of_none, okV_ok, okV_ex, okV_no, bOf_b, iOf_i, asL_l, asS_l, asS_s, lOf_l, var_ev, var_el, var_es, int_ev, bool_ev, non_ev, str_ev, av_f, av_t, op_ev, op_el, op_es, opN_ev, e_ev, e_el, e_es, neg_ev, bv_eq, iv_eq, andV_ev, orV_ev, notV_ev, ife_ev, ife_el, ife_es, chain_ev, tup_ev, dev_eq, avD_nil, avD_cons, lst_ev, anil_ev, acons_ev, bi_ev, biN_ev, call_ev, call_el, call_es, callN_ev, meth_ev, meth_el, meth_es, methN_ev, make_ev, fld_ev, fld_el, fld_es, test_ev, B_ev, and_ev, or_ev, not_ev, truthL_ev, ifeT_ev, yes_ev, onone_ev, osome_ev, sl_ev, slS_ev, lend_ev, blank_ev, ilist_ev, irng1_ev, irng2_ev, avI1_i, avI2_i, ienum_ev, izip_ev, gname_ev, gnil_ev, gcons_ev, gtup_ev, glst_ev, lc_ev, nx_ev, brk_ev, cnt_ev, seq_ev, set_ev, setN_ev, asg_ev, par_ev, aug_ev, seti_ev, app_ev, ite_ev, ret_ev, retN_ev, retO_ev, retV_ev, drop_ev, frz_ev, for_ev, lp_nil, raise_ev, try_ev, add_ka, add_kb, add_f, sub_ka, sub_kb, sub_f, band_ka, band_kb, band_f, lt_ka, lt_kb, lt_f, le_ka, le_kb, le_f, gt_ka, gt_kb, gt_f, ge_ka, ge_kb, ge_f, mul_ka, mul_kb, div_ka, div_kb, divU_ka, divU_kb, mod_ka, mod_kb, pow_ka, pow_kb, shl_ka, shl_kb, shr_ka, shr_kb, eq_ka, eq_kb, ne_ka, ne_kb, eqD_ka, eqD_kb, neD_ka, neD_kb, isN_ka, isN_kb, notN_ka, notN_kb, ixS_ka, ixS_kb, ixT_ka, ixT_kb, ixL_ka, ixL_kb, inL_ka, inL_kb, notInL_ka, notInL_kb, cat_ka, cat_kb, rep_ka, rep_kb, eq_i, eq_s, ne_i, ne_s, isN_f, notN_f, ixL_f, ixT_f, ixS_f, len_f, lenS_f, abs_f, min2_f, max2_f, int_f, intB_f, gcd_f, listN_f, runX_eq, res_rt, res_ro, res_nx, res_xc, at0, at1, at2, rng_if, lcL_nil, mul_f, div_f, divU_f, mod_f, pow_f, shl_f, shr_f, cat_f, lcm_f, List.getElem?_cons_zero, List.getElem?_cons_succ, List.set_cons_zero, List.set_cons_succ, List.length_cons, List.length_nil, Nat.reduceAdd, Nat.reduceLT, Nat.reduceLeDiff, Nat.reduceEqDiff, if_true, if_false, Option.map_some, Option.map_none, Option.bind_some, Option.bind_none, reduceIte, decide_true, decide_false, R.start, avS, R.frz, at0, at1, at2, allXb, Sv.isX, List.all_cons, List.all_nil, Bool.and_true, Bool.true_and, Bool.and_false, Bool.false_and, List.flatten_cons, List.map_cons, List.map_nil, List.cons_append, List.nil_append, List.replicate_succ, List.replicate_zero, Bool.not_true, Bool.not_false, Nat.reduceMul, Nat.reduceSub, Nat.zero_add, and_self, and_true, true_and, and_false, false_and])
local macro_rules | `(tactic| walk_at "evh") => `(tactic| simp (disch := walk_at "ds") only [bind_ok, bind_ex, bind_no, oc_k, oc_x, oc_n, of_some, of_none, okV_ok, okV_ex, okV_no, bOf_b, iOf_i, asL_l, asS_l, asS_s, lOf_l, var_ev, var_el, var_es, int_ev, bool_ev, non_ev, str_ev, av_f, av_t, op_ev, op_el, op_es, opN_ev, e_ev, e_el, e_es, neg_ev, bv_eq, iv_eq, andV_ev, orV_ev, notV_ev, ife_ev, ife_el, ife_es, chain_ev, tup_ev, dev_eq, avD_nil, avD_cons, lst_ev, anil_ev, acons_ev, bi_ev, biN_ev, call_ev, call_el, call_es, callN_ev, meth_ev, meth_el, meth_es, methN_ev, make_ev, fld_ev, fld_el, fld_es, test_ev, B_ev, and_ev, or_ev, not_ev, truthL_ev, ifeT_ev, yes_ev, onone_ev, osome_ev, sl_ev, slS_ev, lend_ev, blank_ev, ilist_ev, irng1_ev, irng2_ev, avI1_i, avI2_i, ienum_ev, izip_ev, gname_ev, gnil_ev, gcons_ev, gtup_ev, glst_ev, lc_ev, nx_ev, brk_ev, cnt_ev, seq_ev, set_ev, setN_ev, asg_ev, par_ev, aug_ev, seti_ev, app_ev, ite_ev, ret_ev, retN_ev, retO_ev, retV_ev, drop_ev, frz_ev, for_ev, lp_nil, raise_ev, try_ev, add_ka, add_kb, add_f, sub_ka, sub_kb, sub_f, band_ka, band_kb, band_f, lt_ka, lt_kb, lt_f, le_ka, le_kb, le_f, gt_ka, gt_kb, gt_f, ge_ka, ge_kb, ge_f, mul_ka, mul_kb, div_ka, div_kb, divU_ka, divU_kb, mod_ka, mod_kb, pow_ka, pow_kb, shl_ka, shl_kb, shr_ka, shr_kb, eq_ka, eq_kb, ne_ka, ne_kb, eqD_ka, eqD_kb, neD_ka, neD_kb, isN_ka, isN_kb, notN_ka, notN_kb, ixS_ka, ixS_kb, ixT_ka, ixT_kb, ixL_ka, ixL_kb, inL_ka, inL_kb, notInL_ka, notInL_kb, cat_ka, cat_kb, rep_ka, rep_kb, eq_i, eq_s, ne_i, ne_s, isN_f, notN_f, ixL_f, ixT_f, ixS_f, len_f, lenS_f, abs_f, min2_f, max2_f, int_f, intB_f, gcd_f, listN_f, runX_eq, res_rt, res_ro, res_nx, res_xc, at0, at1, at2, rng_if, lcL_nil, mul_f, div_f, divU_f, mod_f, pow_f, shl_f, shr_f, cat_f, lcm_f, List.getElem?_cons_zero, List.getElem?_cons_succ, List.set_cons_zero, List.set_cons_succ, List.length_cons, List.length_nil, Nat.reduceAdd, Nat.reduceLT, Nat.reduceLeDiff, Nat.reduceEqDiff, if_true, if_false, Option.map_some, Option.map_none, Option.bind_some, Option.bind_none, reduceIte, decide_true, decide_false, R.start, avS, R.frz, at0, at1, at2, allXb, Sv.isX, List.all_cons, List.all_nil, Bool.and_true, Bool.true_and, Bool.and_false, Bool.false_and, List.flatten_cons, List.map_cons, List.map_nil, List.cons_append, List.nil_append, List.replicate_succ, List.replicate_zero, Bool.not_true, Bool.not_false, Nat.reduceMul, Nat.reduceSub, Nat.zero_add, and_self, and_true, true_and, and_false, false_and, *])
variable {K : PySem.W.Frag} {mg : Str → Option Value} (T : Tx K mg)
abbrev fd (x : Int × Int) : PyData := .tuple [.int x.1, .int x.2]
abbrev fv (x : Int × Int) : Av := .v (.d (fd x))
theorem f_fraction0 (p : Int) : (fn_fraction T).f [iv p, iv 0] = .ex T.c_ZeroDivisor p := by
  rw [fnf_fraction]
  unfold xs_fraction
  walk_at "ev"
theorem f_fraction {k : Nat} {p q : Int} (h : q ≠ 0) (h0 : 0 < k) (hk : k ≤ 9000) (hb : q.natAbs < 2 ^ k) : (fn_fraction T).f [iv p, iv q] = .ok (.d (fd (low p q))) := by
  have hg := gI_pos (p := p) h
  have hl := gI_le (p := p) h
  have hg2 : (gI p q).natAbs < 2 ^ k := Nat.lt_of_le_of_lt (by omega) hb
  have hlog : (gI p q).natAbs.log2 < 9000 := Nat.lt_of_lt_of_le (PySem.Flt.log2_lt_of h0 hg2) hk
  rw [fnf_fraction]
  unfold xs_fraction
  rw [← low_fdiv h]
  have e0 : decide (q = 0) = false := decide_eq_false h
  have eg : ((Nat.gcd p.natAbs q.natAbs : Nat) : Int) = gI p q := rfl
  by_cases hq : q < 0
  · have hc : ∀ i, CDivU i (-gI p q) := fun i => ⟨by omega, by rw [Int.natAbs_neg]; exact hlog⟩
    have hc1 := hc p
    have hc2 := hc q
    have e1 : decide (q < 0) = true := decide_eq_true hq
    clear hb hg2 hlog
    walk_at "evh"
  · have hc : ∀ i, CDivU i (gI p q) := fun i => ⟨by omega, hlog⟩
    have hc1 := hc p
    have hc2 := hc q
    have e1 : decide (q < 0) = false := decide_eq_false hq
    clear hb hg2 hlog
    walk_at "evh"
/-! the law's own way -/
def lowS (p q one two : Int) (s : Sv) : List Sv := [.v (.d (.int p)), .v (.d (.int q)), .v (.d (.int one)), .v (.d (.int two)), s]
theorem euc_loop (p q : Int) : ∀ (ds : List PyData) (a b : Nat) (s : Sv), ∃ s', lp (K := K) (XG.name 4) (xb_law_lowest_1 T) ds (lowS p q a b s) = (.nx (lowS p q (euc ds.length a b).1 (euc ds.length a b).2 s') : Oc)
  | [], a, b, s => ⟨s, rfl⟩
  | d :: ds, a, b, s => by
    by_cases hb : b = 0
    · subst hb
      refine ⟨.v (.d d), ?_⟩
      have e : euc (d :: ds).length a 0 = (a, 0) := by show euc (ds.length + 1) a 0 = _; unfold euc; rw [if_pos rfl]
      rw [e]
      rw [lp_cons]
      unfold lowS xb_law_lowest_1
      have e0 : decide (((0 : Nat) : Int) = 0) = true := rfl
      clear e
      walk_at "evh"
    · obtain ⟨s', h⟩ := euc_loop p q ds b (a % b) (.v (.d d))
      refine ⟨s', ?_⟩
      have e : euc (d :: ds).length a b = euc ds.length b (a % b) := by show euc (ds.length + 1) a b = _; conv => lhs; unfold euc; rw [if_neg hb]
      rw [e, ← h]
      have e0 : decide ((b : Int) = 0) = false := decide_eq_false (by omega)
      have e1 : (0 : Int) < (b : Int) := by omega
      have e2 : ((a : Int) % (b : Int)) = ((a % b : Nat) : Int) := rfl
      rw [lp_cons]
      unfold lowS xb_law_lowest_1
      clear h e
      walk_at "evh"
theorem f_lowest {k : Nat} {p q : Int} (h : q ≠ 0) (h0 : 0 < k) (hk : 2 * k + 1 ≤ 4000) (hb : q.natAbs < 2 ^ k) : (fn_law_lowest T).f [iv p, iv q] = .ok (.d (fd (low p q))) := by
  have hg := gI_pos (p := p) h
  have hl := gI_le (p := p) h
  have hg2 : (gI p q).natAbs < 2 ^ k := Nat.lt_of_le_of_lt (by omega) hb
  have hlog : (gI p q).natAbs.log2 < 9000 := Nat.lt_of_lt_of_le (PySem.Flt.log2_lt_of h0 hg2) (by omega)
  have hc : ∀ i, CDivW i (gI p q) := fun i => ⟨by omega, hlog⟩
  have hlen : (irange 0 (4000 : Int).toNat).length = 4000 := by rw [irange_len]; rfl
  have e : euc 4000 p.natAbs q.natAbs = (Nat.gcd p.natAbs q.natAbs, 0) := euc_done k 4000 _ _ hb hk
  have ea : ∀ x : Int, (if x < 0 then -x else x) = (x.natAbs : Int) := fun x => by split <;> omega
  have main : ∀ P Q : Int, 0 < Q → P.natAbs = p.natAbs → Q.natAbs = q.natAbs → (P / gI p q, Q / gI p q) = low p q →
      (XS.seq (.par 2 3 (.cons false (.bi Bi.abs (.cons false (.var 0) .nil)) (.cons false (.var 1) .nil)))
    (.seq (.for_ (.range1 (.cons false (.int 4000) .nil)) (.name 4) (xb_law_lowest_1 T))
    (.ret (.tup (.cons false (.op O2.div (.var 0) (.var 2)) (.cons false (.op O2.div (.var 1) (.var 2)) .nil))))) : XS K).ev [.v (.d (.int P)), .v (.d (.int Q)), .x, .x, .x] = .rt (.d (fd (low p q))) := by
    intro P Q hQ h1 h2 h3
    refine run_nx (st1 := lowS P Q (P.natAbs : Int) (Q.natAbs : Int) .x) ?_ ?_
    · have eQ : (Q.natAbs : Int) = Q := by omega
      unfold lowS
      rw [eQ, ← ea P]
      walk_at "ev"
    · obtain ⟨s', hl⟩ := euc_loop T P Q (irange 0 (4000 : Int).toNat) P.natAbs Q.natAbs .x
      rw [hlen, h1, h2, e] at hl
      rw [h1, h2]
      refine run_nx (st1 := lowS P Q (Nat.gcd p.natAbs q.natAbs : Nat) (0 : Nat) s') (for_nx (ds := irange 0 (4000 : Int).toNat) (by walk_at "ev") hl) ?_
      have eg : ((Nat.gcd p.natAbs q.natAbs : Nat) : Int) = gI p q := rfl
      have hc1 := hc P
      have hc2 := hc Q
      rw [eg, ← h3]
      unfold lowS
      clear hb hg2 hlog hl e hlen ea h3
      walk_at "ev"
  rw [fnf_law_lowest]
  refine runX_of ?_
  unfold xs_law_lowest
  by_cases hq : q < 0
  · refine run_nx (st1 := [.v (.d (.int (-p))), .v (.d (.int (-q))), .x, .x, .x]) ?_ (main (-p) (-q) (by omega) (Int.natAbs_neg _) (Int.natAbs_neg _) ?_)
    · have e1 : decide (q < 0) = true := decide_eq_true hq
      clear hb hg2 hlog e hlen ea main
      walk_at "evh"
    · unfold low; rw [if_pos hq]
  · refine run_nx (st1 := [.v (.d (.int p)), .v (.d (.int q)), .x, .x, .x]) ?_ (main p q (by omega) rfl rfl ?_)
    · have e1 : decide (q < 0) = false := decide_eq_false hq
      clear hb hg2 hlog e hlen ea main
      walk_at "evh"
    · unfold low; rw [if_neg hq]
end Q

set_option Elab.async false
set_option linter.all false
set_option maxRecDepth 100000
set_option maxHeartbeats 4000000
namespace Q
open PySem PySem.Spec PyProof.Rows L2 Z R QF
local macro_rules | `(tactic| walk_at "ds") => `(tactic| first | assumption | decide | omega | exact ⟨by decide, by decide⟩ | exact ⟨by omega, by omega⟩ | exact div_lit ⟨by omega, by omega⟩ | exact mul_r (by omega) | exact mul_l (by omega))
local macro_rules | `(tactic| walk_at "ev") => `(tactic| simp (disch := walk_at "ds") only [bind_ok, bind_ex, bind_no, oc_k, oc_x, oc_n, of_some, of_none, okV_ok, okV_ex, okV_no, bOf_b, iOf_i, asL_l, asS_l, asS_s, lOf_l, var_ev, var_el, var_es, int_ev, bool_ev, non_ev, str_ev, av_f, av_t, op_ev, op_el, op_es, opN_ev, e_ev, e_el, e_es, neg_ev, bv_eq, iv_eq, andV_ev, orV_ev, notV_ev, ife_ev, ife_el, ife_es, chain_ev, tup_ev, dev_eq, avD_nil, avD_cons, lst_ev, anil_ev, acons_ev, bi_ev, biN_ev, call_ev, call_el, call_es, callN_ev, meth_ev, meth_el, meth_es, methN_ev, make_ev, fld_ev, fld_el, fld_es, test_ev, B_ev, and_ev, or_ev, not_ev, truthL_ev, ifeT_ev, yes_ev, onone_ev, osome_ev, sl_ev, slS_ev, lend_ev, blank_ev, ilist_ev, irng1_ev, irng2_ev, avI1_i, avI2_i, ienum_ev, izip_ev, gname_ev, gnil_ev, gcons_ev, gtup_ev, glst_ev, lc_ev, nx_ev, brk_ev, cnt_ev, seq_ev, set_ev, setN_ev, asg_ev, par_ev, aug_ev, seti_ev, app_ev, ite_ev, ret_ev, retN_ev, retO_ev, retV_ev, drop_ev, frz_ev, for_ev, lp_nil, raise_ev, try_ev, add_ka, add_kb, add_f, sub_ka, sub_kb, sub_f, band_ka, band_kb, band_f, lt_ka, lt_kb, lt_f, le_ka, le_kb, le_f, gt_ka, gt_kb, gt_f, ge_ka, ge_kb, ge_f, mul_ka, mul_kb, div_ka, div_kb, divU_ka, divU_kb, mod_ka, mod_kb, pow_ka, pow_kb, shl_ka, shl_kb, shr_ka, shr_kb, eq_ka, eq_kb, ne_ka, ne_kb, eqD_ka, eqD_kb, neD_ka, neD_kb, isN_ka, isN_kb, notN_ka, notN_kb, ixS_ka, ixS_kb, ixT_ka, ixT_kb, ixL_ka, ixL_kb, inL_ka, inL_kb, notInL_ka, notInL_kb, cat_ka, cat_kb, rep_ka, rep_kb, eq_i, eq_s, ne_i, ne_s, isN_f, notN_f, ixL_f, ixT_f, ixS_f, len_f, lenS_f, abs_f, min2_f, max2_f, int_f, intB_f, gcd_f, listN_f, runX_eq, res_rt, res_ro, res_nx, res_xc, at0, at1, at2, rng_if, lcL_nil, mul_f, div_f, divU_f, mod_f, pow_f, shl_f, shr_f, cat_f, lcm_f, List.getElem?_cons_zero, List.getElem?_cons_succ, List.set_cons_zero, List.set_cons_succ, List.length_cons, List.length_nil, Nat.reduceAdd, Nat.reduceLT, Nat.reduceLeDiff, Nat.reduceEqDiff, if_true, if_false, Option.map_some, Option.map_none, Option.bind_some, Option.bind_none, reduceIte, decide_true, decide_false, R.start, avS, R.frz, at0, at1, at2, allXb, Sv.isX, List.all_cons, List.all_nil, Bool.and_true, Bool.true_and, Bool.and_false, Bool.false_and, List.flatten_cons, List.map_cons, List.map_nil, List.cons_append, List.nil_append, List.replicate_succ, List.replicate_zero, Bool.not_true, Bool.not_false, Nat.reduceMul, Nat.reduceSub, Nat.zero_add, and_self, and_true, true_and, and_false, false_and])
local macro_rules | `(tactic| walk_at "evh") => `(tactic| simp (disch := walk_at "ds") only [bind_ok, bind_ex, bind_no, oc_k, oc_x, oc_n, of_some, of_none, okV_ok, okV_ex, okV_no, bOf_b, iOf_i, asL_l, asS_l, asS_s, lOf_l, var_ev, var_el, var_es, int_ev, bool_ev, non_ev, str_ev, av_f, av_t, op_ev, op_el, op_es, opN_ev, e_ev, e_el, e_es, neg_ev, bv_eq, iv_eq, andV_ev, orV_ev, notV_ev, ife_ev, ife_el, ife_es, chain_ev, tup_ev, dev_eq, avD_nil, avD_cons, lst_ev, anil_ev, acons_ev, bi_ev, biN_ev, call_ev, call_el, call_es, callN_ev, meth_ev, meth_el, meth_es, methN_ev, make_ev, fld_ev, fld_el, fld_es, test_ev, B_ev, and_ev, or_ev, not_ev, truthL_ev, ifeT_ev, yes_ev, onone_ev, osome_ev, sl_ev, slS_ev, lend_ev, blank_ev, ilist_ev, irng1_ev, irng2_ev, avI1_i, avI2_i, ienum_ev, izip_ev, gname_ev, gnil_ev, gcons_ev, gtup_ev, glst_ev, lc_ev, nx_ev, brk_ev, cnt_ev, seq_ev, set_ev, setN_ev, asg_ev, par_ev, aug_ev, seti_ev, app_ev, ite_ev, ret_ev, retN_ev, retO_ev, retV_ev, drop_ev, frz_ev, for_ev, lp_nil, raise_ev, try_ev, add_ka, add_kb, add_f, sub_ka, sub_kb, sub_f, band_ka, band_kb, band_f, lt_ka, lt_kb, lt_f, le_ka, le_kb, le_f, gt_ka, gt_kb, gt_f, ge_ka, ge_kb, ge_f, mul_ka, mul_kb, div_ka, div_kb, divU_ka, divU_kb, mod_ka, mod_kb, pow_ka, pow_kb, shl_ka, shl_kb, shr_ka, shr_kb, eq_ka, eq_kb, ne_ka, ne_kb, eqD_ka, eqD_kb, neD_ka, neD_kb, isN_ka, isN_kb, notN_ka, notN_kb, ixS_ka, ixS_kb, ixT_ka, ixT_kb, ixL_ka, ixL_kb, inL_ka, inL_kb, notInL_ka, notInL_kb, cat_ka, cat_kb, rep_ka, rep_kb, eq_i, eq_s, ne_i, ne_s, isN_f, notN_f, ixL_f, ixT_f, ixS_f, len_f, lenS_f, abs_f, min2_f, max2_f, int_f, intB_f, gcd_f, listN_f, runX_eq, res_rt, res_ro, res_nx, res_xc, at0, at1, at2, rng_if, lcL_nil, mul_f, div_f, divU_f, mod_f, pow_f, shl_f, shr_f, cat_f, lcm_f, List.getElem?_cons_zero, List.getElem?_cons_succ, List.set_cons_zero, List.set_cons_succ, List.length_cons, List.length_nil, Nat.reduceAdd, Nat.reduceLT, Nat.reduceLeDiff, Nat.reduceEqDiff, if_true, if_false, Option.map_some, Option.map_none, Option.bind_some, Option.bind_none, reduceIte, decide_true, decide_false, R.start, avS, R.frz, at0, at1, at2, allXb, Sv.isX, List.all_cons, List.all_nil, Bool.and_true, Bool.true_and, Bool.and_false, Bool.false_and, List.flatten_cons, List.map_cons, List.map_nil, List.cons_append, List.nil_append, List.replicate_succ, List.replicate_zero, Bool.not_true, Bool.not_false, Nat.reduceMul, Nat.reduceSub, Nat.zero_add, and_self, and_true, true_and, and_false, false_and, *])
variable {K : PySem.W.Frag} {mg : Str → Option Value} (T : Tx K mg)
theorem mulU {i j : Int} {a b : Nat} (ha : i.natAbs < 2 ^ a) (hb : j.natAbs < 2 ^ b) (h : 1 ≤ a ∧ 1 ≤ b ∧ a + b ≤ 1000000) : CMulU i j := .inr (.inr (wide_mul ha hb (by omega) (by omega) h.2.2))
theorem mulB {i j : Int} {a b : Nat} (ha : i.natAbs < 2 ^ a) (hb : j.natAbs < 2 ^ b) : (i * j).natAbs < 2 ^ (a + b) := wide_lt ha hb
theorem divW {i j : Int} {b : Nat} (h : 0 < j) (hb : j.natAbs < 2 ^ b) (hk : 1 ≤ b ∧ b ≤ 9000) : CDivW i j := wide_div h hb (by omega) hk.2
theorem sh_fd (x : Int × Int) : SeqAt.shaped (fd x) = true := Sh.shaped (k := 1) (sh_tup (sh_cons sh_int (sh_cons sh_int sh_nil)))
theorem eqv_fd (x y : Int × Int) : PyData.eqv (fd x) (fd y) = decide (x = y) := by
  rw [Bool.eq_iff_iff, decide_eq_true_eq]
  unfold fd
  simp [PyData.eqv, PyData.eqvAll, Prod.ext_iff]
theorem sh_b (x : Bool) : SeqAt.shaped (.bool x) = true := rfl
theorem eqv_b (x y : Bool) : PyData.eqv (.bool x) (.bool y) = decide (x = y) := by cases x <;> cases y <;> decide
theorem eqvfd {x y : Int × Int} : (O2.eqD : O2 K).f (fv x) (fv y) = some (.d (.bool (decide (x = y)))) := by rw [eqD_f ⟨sh_fd x, sh_fd y⟩, eqv_fd]
theorem nevfd {x y : Int × Int} : (O2.neD : O2 K).f (fv x) (fv y) = some (.d (.bool (!decide (x = y)))) := by rw [neD_f ⟨sh_fd x, sh_fd y⟩, eqv_fd]
theorem f_is_fraction (x : Int × Int) : (fn_is_fraction T).f [fv x] = .ok (.d (.bool (decide (1 ≤ x.2) && decide (Nat.gcd x.1.natAbs x.2.natAbs = 1)))) := by
  rw [fnf_is_fraction]
  refine runX_of ?_
  unfold xs_is_fraction
  have e : decide (((Nat.gcd x.1.natAbs x.2.natAbs : Nat) : Int) = 1) = decide (Nat.gcd x.1.natAbs x.2.natAbs = 1) := by rw [Bool.eq_iff_iff, decide_eq_true_eq, decide_eq_true_eq]; omega
  by_cases h : 1 ≤ x.2
  · have e1 : decide (1 ≤ x.2) = true := decide_eq_true h
    walk_at "evh"
  · have e1 : decide (1 ≤ x.2) = false := decide_eq_false h
    walk_at "evh"
section
variable {x y : Int × Int} {n a b : Nat}
/-- sizes of two fractions -/
structure Sz (x y : Int × Int) (n a b : Nat) : Prop where
  x1 : x.1.natAbs < 2 ^ n
  y1 : y.1.natAbs < 2 ^ n
  x2 : x.2.natAbs < 2 ^ a
  y2 : y.2.natAbs < 2 ^ b
  n0 : 1 ≤ n ∧ 1 ≤ a ∧ 1 ≤ b
  n1 : n ≤ 400000 ∧ 2 * (a + b) + 1 ≤ 4000
theorem Sz.m12 (s : Sz x y n a b) : CMulU x.1 y.2 := mulU s.x1 s.y2 (by have := s.n0; have := s.n1; omega)
theorem Sz.m21 (s : Sz x y n a b) : CMulU y.1 x.2 := mulU s.y1 s.x2 (by have := s.n0; have := s.n1; omega)
theorem Sz.m11 (s : Sz x y n a b) : CMulU x.1 y.1 := mulU s.x1 s.y1 (by have := s.n0; have := s.n1; omega)
theorem Sz.m22 (s : Sz x y n a b) : CMulU x.2 y.2 := mulU s.x2 s.y2 (by have := s.n0; have := s.n1; omega)
theorem Sz.q (s : Sz x y n a b) : (x.2 * y.2).natAbs < 2 ^ (a + b) := mulB s.x2 s.y2
theorem f_is_less (s : Sz x y n a b) : (fn_is_less T).f [fv x, fv y] = .ok (.d (.bool (decide (x.1 * y.2 < y.1 * x.2)))) := by
  have h1 := s.m12
  have h2 := s.m21
  rw [fnf_is_less]
  refine runX_of ?_
  unfold xs_is_less
  clear s
  walk_at "ev"
theorem f_law_less (s : Sz x y n a b) : (fn_law_less T).f [fv x, fv y] = .ok (.d (.bool (decide (x.1 * y.2 < y.1 * x.2)))) := by
  have h1 := s.m12
  have h2 := s.m21
  rw [fnf_law_less]
  refine runX_of ?_
  unfold xs_law_less
  clear s
  walk_at "ev"
theorem f_plus (s : Sz x y n a b) (hx : x.2 ≠ 0) (hy : y.2 ≠ 0) : (fn_plus T).f [fv x, fv y] = .ok (.d (fd (low (x.1 * y.2 + y.1 * x.2) (x.2 * y.2)))) := by
  have h1 := s.m12
  have h2 := s.m21
  have h3 := s.m22
  have hf := f_fraction T (k := a + b) (p := x.1 * y.2 + y.1 * x.2) (Int.mul_ne_zero hx hy) (by have := s.n0; omega) (by have := s.n1; omega) s.q
  have hm := fnm_fraction T
  rw [fnf_plus]
  refine runX_of ?_
  unfold xs_plus
  clear s
  walk_at "evh"
theorem f_minus (s : Sz x y n a b) (hx : x.2 ≠ 0) (hy : y.2 ≠ 0) : (fn_minus T).f [fv x, fv y] = .ok (.d (fd (low (x.1 * y.2 - y.1 * x.2) (x.2 * y.2)))) := by
  have h1 := s.m12
  have h2 := s.m21
  have h3 := s.m22
  have hf := f_fraction T (k := a + b) (p := x.1 * y.2 - y.1 * x.2) (Int.mul_ne_zero hx hy) (by have := s.n0; omega) (by have := s.n1; omega) s.q
  have hm := fnm_fraction T
  rw [fnf_minus]
  refine runX_of ?_
  unfold xs_minus
  clear s
  walk_at "evh"
theorem f_times (s : Sz x y n a b) (hx : x.2 ≠ 0) (hy : y.2 ≠ 0) : (fn_times T).f [fv x, fv y] = .ok (.d (fd (low (x.1 * y.1) (x.2 * y.2)))) := by
  have h1 := s.m11
  have h3 := s.m22
  have hf := f_fraction T (k := a + b) (p := x.1 * y.1) (Int.mul_ne_zero hx hy) (by have := s.n0; omega) (by have := s.n1; omega) s.q
  have hm := fnm_fraction T
  rw [fnf_times]
  refine runX_of ?_
  unfold xs_times
  clear s
  walk_at "evh"
theorem f_law_plus (s : Sz x y n a b) (hx : x.2 ≠ 0) (hy : y.2 ≠ 0) : (fn_law_plus T).f [fv x, fv y] = .ok (.d (fd (low (x.1 * y.2 + y.1 * x.2) (x.2 * y.2)))) := by
  have h1 := s.m12
  have h2 := s.m21
  have h3 := s.m22
  have hf := f_lowest T (k := a + b) (p := x.1 * y.2 + y.1 * x.2) (Int.mul_ne_zero hx hy) (by have := s.n0; omega) (by have := s.n1; omega) s.q
  have hm := fnm_law_lowest T
  rw [fnf_law_plus]
  refine runX_of ?_
  unfold xs_law_plus
  clear s
  walk_at "evh"
theorem f_law_times (s : Sz x y n a b) (hx : x.2 ≠ 0) (hy : y.2 ≠ 0) : (fn_law_times T).f [fv x, fv y] = .ok (.d (fd (low (x.1 * y.1) (x.2 * y.2)))) := by
  have h1 := s.m11
  have h3 := s.m22
  have hf := f_lowest T (k := a + b) (p := x.1 * y.1) (Int.mul_ne_zero hx hy) (by have := s.n0; omega) (by have := s.n1; omega) s.q
  have hm := fnm_law_lowest T
  rw [fnf_law_times]
  refine runX_of ?_
  unfold xs_law_times
  clear s
  walk_at "evh"
theorem f_over (s : Sz x y n a b) (hx : x.2 ≠ 0) (hy : y.1 ≠ 0) (hn : n ≤ 900) : (fn_over T).f [fv x, fv y] = .ok (.d (fd (low (x.1 * y.2) (x.2 * y.1)))) := by
  have h1 := s.m12
  have h3 : CMulU x.2 y.1 := mulU s.x2 s.y1 (by have := s.n0; have := s.n1; omega)
  have hf := f_fraction T (k := a + n) (p := x.1 * y.2) (Int.mul_ne_zero hx hy) (by have := s.n0; omega) (by have := s.n1; omega) (mulB s.x2 s.y1)
  have hm := fnm_fraction T
  rw [fnf_over]
  refine runX_of ?_
  unfold xs_over
  clear s
  walk_at "evh"
theorem f_over0 (s : Sz x y n a b) (hy : y.1 = 0) : (fn_over T).f [fv x, fv y] = .ex T.c_ZeroDivisor (x.1 * y.2) := by
  have h1 := s.m12
  have h3 : CMulU x.2 y.1 := mulU s.x2 s.y1 (by have := s.n0; have := s.n1; omega)
  have e0 : x.2 * y.1 = 0 := by rw [hy, Int.mul_zero]
  have hf := f_fraction0 T (x.1 * y.2)
  have hm := fnm_fraction T
  rw [fnf_over]
  show Oc.res false _ = _
  unfold xs_over
  clear s hy
  walk_at "evh"
theorem f_floor {k : Nat} (h : 0 < x.2) (hb : x.2.natAbs < 2 ^ k) (hk : 1 ≤ k ∧ k ≤ 9000) : (fn_floor T).f [fv x] = .ok (.d (.int (x.1 / x.2))) := by
  have h1 : CDivW x.1 x.2 := divW h hb hk
  rw [fnf_floor]
  refine runX_of ?_
  unfold xs_floor
  clear hb
  walk_at "ev"
theorem f_ceiling {k : Nat} (h : 0 < x.2) (hb : x.2.natAbs < 2 ^ k) (hk : 1 ≤ k ∧ k ≤ 9000) : (fn_ceiling T).f [fv x] = .ok (.d (.int (-(-x.1 / x.2)))) := by
  have h1 : CDivW (-x.1) x.2 := divW h hb hk
  rw [fnf_ceiling]
  refine runX_of ?_
  unfold xs_ceiling
  clear hb
  walk_at "ev"
theorem f_law_good {k : Nat} (h : x.2 ≠ 0) (hb : x.2.natAbs < 2 ^ k) (hk : 1 ≤ k ∧ 2 * k + 1 ≤ 4000) : (fn_law_good T).f [fv x] = .ok (.d (.bool (decide (1 ≤ x.2) && decide (low x.1 x.2 = x)))) := by
  have hf := f_lowest T (k := k) (p := x.1) h (by omega) hk.2 hb
  have hm := fnm_law_lowest T
  have he := eqvfd (K := K) (x := low x.1 x.2) (y := x)
  rw [fnf_law_good]
  refine runX_of ?_
  unfold xs_law_good
  clear hb
  by_cases h1 : 1 ≤ x.2
  · have e1 : decide (1 ≤ x.2) = true := decide_eq_true h1
    walk_at "evh"
  · have e1 : decide (1 ≤ x.2) = false := decide_eq_false h1
    walk_at "evh"
end
end Q

set_option Elab.async false
set_option linter.all false
set_option maxRecDepth 100000
set_option maxHeartbeats 4000000
namespace Q
open PySem PySem.Spec PyProof.Rows L2 Z R QF
local macro_rules | `(tactic| walk_at "ds") => `(tactic| first | assumption | decide | omega | exact ⟨by decide, by decide⟩ | exact ⟨by omega, by omega⟩ | exact div_lit ⟨by omega, by omega⟩ | exact mul_r (by omega) | exact mul_l (by omega))
local macro_rules | `(tactic| walk_at "ev") => `(tactic| simp (disch := walk_at "ds") only [bind_ok, bind_ex, bind_no, oc_k, oc_x, oc_n, of_some, of_none, okV_ok, okV_ex, okV_no, bOf_b, iOf_i, asL_l, asS_l, asS_s, lOf_l, var_ev, var_el, var_es, int_ev, bool_ev, non_ev, str_ev, av_f, av_t, op_ev, op_el, op_es, opN_ev, e_ev, e_el, e_es, neg_ev, bv_eq, iv_eq, andV_ev, orV_ev, notV_ev, ife_ev, ife_el, ife_es, chain_ev, tup_ev, dev_eq, avD_nil, avD_cons, lst_ev, anil_ev, acons_ev, bi_ev, biN_ev, call_ev, call_el, call_es, callN_ev, meth_ev, meth_el, meth_es, methN_ev, make_ev, fld_ev, fld_el, fld_es, test_ev, B_ev, and_ev, or_ev, not_ev, truthL_ev, ifeT_ev, yes_ev, onone_ev, osome_ev, sl_ev, slS_ev, lend_ev, blank_ev, ilist_ev, irng1_ev, irng2_ev, avI1_i, avI2_i, ienum_ev, izip_ev, gname_ev, gnil_ev, gcons_ev, gtup_ev, glst_ev, lc_ev, nx_ev, brk_ev, cnt_ev, seq_ev, set_ev, setN_ev, asg_ev, par_ev, aug_ev, seti_ev, app_ev, ite_ev, ret_ev, retN_ev, retO_ev, retV_ev, drop_ev, frz_ev, for_ev, lp_nil, raise_ev, try_ev, add_ka, add_kb, add_f, sub_ka, sub_kb, sub_f, band_ka, band_kb, band_f, lt_ka, lt_kb, lt_f, le_ka, le_kb, le_f, gt_ka, gt_kb, gt_f, ge_ka, ge_kb, ge_f, mul_ka, mul_kb, div_ka, div_kb, divU_ka, divU_kb, mod_ka, mod_kb, pow_ka, pow_kb, shl_ka, shl_kb, shr_ka, shr_kb, eq_ka, eq_kb, ne_ka, ne_kb, eqD_ka, eqD_kb, neD_ka, neD_kb, isN_ka, isN_kb, notN_ka, notN_kb, ixS_ka, ixS_kb, ixT_ka, ixT_kb, ixL_ka, ixL_kb, inL_ka, inL_kb, notInL_ka, notInL_kb, cat_ka, cat_kb, rep_ka, rep_kb, eq_i, eq_s, ne_i, ne_s, isN_f, notN_f, ixL_f, ixT_f, ixS_f, len_f, lenS_f, abs_f, min2_f, max2_f, int_f, intB_f, gcd_f, listN_f, runX_eq, res_rt, res_ro, res_nx, res_xc, at0, at1, at2, rng_if, lcL_nil, mul_f, div_f, divU_f, mod_f, pow_f, shl_f, shr_f, cat_f, lcm_f, List.getElem?_cons_zero, List.getElem?_cons_succ, List.set_cons_zero, List.set_cons_succ, List.length_cons, List.length_nil, Nat.reduceAdd, Nat.reduceLT, Nat.reduceLeDiff, Nat.reduceEqDiff, if_true, if_false, Option.map_some, Option.map_none, Option.bind_some, Option.bind_none, reduceIte, decide_true, decide_false, R.start, avS, R.frz, at0, at1, at2, allXb, Sv.isX, List.all_cons, List.all_nil, Bool.and_true, Bool.true_and, Bool.and_false, Bool.false_and, List.flatten_cons, List.map_cons, List.map_nil, List.cons_append, List.nil_append, List.replicate_succ, List.replicate_zero, Bool.not_true, Bool.not_false, Nat.reduceMul, Nat.reduceSub, Nat.zero_add, and_self, and_true, true_and, and_false, false_and])
local macro_rules | `(tactic| walk_at "evh") => `(tactic| simp (disch := walk_at "ds") only [bind_ok, bind_ex, bind_no, oc_k, oc_x, oc_n, of_some, of_none, okV_ok, okV_ex, okV_no, bOf_b, iOf_i, asL_l, asS_l, asS_s, lOf_l, var_ev, var_el, var_es, int_ev, bool_ev, non_ev, str_ev, av_f, av_t, op_ev, op_el, op_es, opN_ev, e_ev, e_el, e_es, neg_ev, bv_eq, iv_eq, andV_ev, orV_ev, notV_ev, ife_ev, ife_el, ife_es, chain_ev, tup_ev, dev_eq, avD_nil, avD_cons, lst_ev, anil_ev, acons_ev, bi_ev, biN_ev, call_ev, call_el, call_es, callN_ev, meth_ev, meth_el, meth_es, methN_ev, make_ev, fld_ev, fld_el, fld_es, test_ev, B_ev, and_ev, or_ev, not_ev, truthL_ev, ifeT_ev, yes_ev, onone_ev, osome_ev, sl_ev, slS_ev, lend_ev, blank_ev, ilist_ev, irng1_ev, irng2_ev, avI1_i, avI2_i, ienum_ev, izip_ev, gname_ev, gnil_ev, gcons_ev, gtup_ev, glst_ev, lc_ev, nx_ev, brk_ev, cnt_ev, seq_ev, set_ev, setN_ev, asg_ev, par_ev, aug_ev, seti_ev, app_ev, ite_ev, ret_ev, retN_ev, retO_ev, retV_ev, drop_ev, frz_ev, for_ev, lp_nil, raise_ev, try_ev, add_ka, add_kb, add_f, sub_ka, sub_kb, sub_f, band_ka, band_kb, band_f, lt_ka, lt_kb, lt_f, le_ka, le_kb, le_f, gt_ka, gt_kb, gt_f, ge_ka, ge_kb, ge_f, mul_ka, mul_kb, div_ka, div_kb, divU_ka, divU_kb, mod_ka, mod_kb, pow_ka, pow_kb, shl_ka, shl_kb, shr_ka, shr_kb, eq_ka, eq_kb, ne_ka, ne_kb, eqD_ka, eqD_kb, neD_ka, neD_kb, isN_ka, isN_kb, notN_ka, notN_kb, ixS_ka, ixS_kb, ixT_ka, ixT_kb, ixL_ka, ixL_kb, inL_ka, inL_kb, notInL_ka, notInL_kb, cat_ka, cat_kb, rep_ka, rep_kb, eq_i, eq_s, ne_i, ne_s, isN_f, notN_f, ixL_f, ixT_f, ixS_f, len_f, lenS_f, abs_f, min2_f, max2_f, int_f, intB_f, gcd_f, listN_f, runX_eq, res_rt, res_ro, res_nx, res_xc, at0, at1, at2, rng_if, lcL_nil, mul_f, div_f, divU_f, mod_f, pow_f, shl_f, shr_f, cat_f, lcm_f, List.getElem?_cons_zero, List.getElem?_cons_succ, List.set_cons_zero, List.set_cons_succ, List.length_cons, List.length_nil, Nat.reduceAdd, Nat.reduceLT, Nat.reduceLeDiff, Nat.reduceEqDiff, if_true, if_false, Option.map_some, Option.map_none, Option.bind_some, Option.bind_none, reduceIte, decide_true, decide_false, R.start, avS, R.frz, at0, at1, at2, allXb, Sv.isX, List.all_cons, List.all_nil, Bool.and_true, Bool.true_and, Bool.and_false, Bool.false_and, List.flatten_cons, List.map_cons, List.map_nil, List.cons_append, List.nil_append, List.replicate_succ, List.replicate_zero, Bool.not_true, Bool.not_false, Nat.reduceMul, Nat.reduceSub, Nat.zero_add, and_self, and_true, true_and, and_false, false_and, *])
variable {K : PySem.W.Frag} {mg : Str → Option Value} (T : Tx K mg)
/-! sums -/
def lcmF (fs : List (Int × Int)) : Int := fs.foldl (fun s f => ((Nat.lcm s.natAbs f.2.natAbs : Nat) : Int)) 1
theorem lcm_fold (fs : List (Int × Int)) : ∀ (s : Int), 0 < s → (∀ f ∈ fs, 0 < f.2) → 0 < fs.foldl (fun s f => ((Nat.lcm s.natAbs f.2.natAbs : Nat) : Int)) s ∧ s ∣ fs.foldl (fun s f => ((Nat.lcm s.natAbs f.2.natAbs : Nat) : Int)) s ∧ (∀ f ∈ fs, f.2 ∣ fs.foldl (fun s f => ((Nat.lcm s.natAbs f.2.natAbs : Nat) : Int)) s) := by
  induction fs with
  | nil => exact fun s h _ => ⟨h, Int.dvd_refl _, fun _ z => nomatch z⟩
  | cons f fs ih =>
    intro s hs hf
    have h0 := hf f (List.mem_cons_self ..)
    have hl : 0 < ((Nat.lcm s.natAbs f.2.natAbs : Nat) : Int) := by
      have := Nat.lcm_pos (m := s.natAbs) (n := f.2.natAbs) (by omega) (by omega)
      omega
    obtain ⟨a, b, c⟩ := ih _ hl fun g hg => hf g (List.mem_cons_of_mem _ hg)
    have d1 : s ∣ ((Nat.lcm s.natAbs f.2.natAbs : Nat) : Int) := Int.natAbs_dvd_natAbs.mp (by rw [Int.natAbs_natCast]; exact Nat.dvd_lcm_left _ _)
    have d2 : f.2 ∣ ((Nat.lcm s.natAbs f.2.natAbs : Nat) : Int) := Int.natAbs_dvd_natAbs.mp (by rw [Int.natAbs_natCast]; exact Nat.dvd_lcm_right _ _)
    refine ⟨a, Int.dvd_trans d1 b, fun g hg => ?_⟩
    rcases List.mem_cons.mp hg with z | z
    · rw [z]; exact Int.dvd_trans d2 b
    · exact c g z
theorem lcm_bd {b : Nat} (fs : List (Int × Int)) : ∀ (s : Int) (k : Nat), s.natAbs < 2 ^ k → (∀ f ∈ fs, f.2.natAbs < 2 ^ b) → (fs.foldl (fun s f => ((Nat.lcm s.natAbs f.2.natAbs : Nat) : Int)) s).natAbs < 2 ^ (k + b * fs.length) := by
  induction fs with
  | nil => exact fun s k h _ => by simpa using h
  | cons f fs ih =>
    intro s k hs hf
    have h1 : (((Nat.lcm s.natAbs f.2.natAbs : Nat) : Int)).natAbs < 2 ^ (k + b) := by
      rw [Int.natAbs_natCast]
      refine Nat.lt_of_le_of_lt (PySem.W.mc_lcm_le _ _) ?_
      rw [Nat.pow_add]
      exact Nat.mul_lt_mul'' hs (hf f (List.mem_cons_self ..))
    have := ih _ _ h1 fun g hg => hf g (List.mem_cons_of_mem _ hg)
    rw [List.length_cons, Nat.mul_succ, show k + (b * fs.length + b) = k + b + b * fs.length by omega]
    exact this
def numF (fs : List (Int × Int)) (S : Int) : List Int := fs.map fun f => f.1 * (S / f.2)
/-- lists of fractions of bounded size -/
structure Fs (fs : List (Int × Int)) (n b : Nat) : Prop where
  is : ∀ f ∈ fs, IsF f
  num : ∀ f ∈ fs, f.1.natAbs < 2 ^ n
  den : ∀ f ∈ fs, f.2.natAbs < 2 ^ b
  n0 : 1 ≤ n ∧ 1 ≤ b
  len : (n + b + 2) * (fs.length + 2) ≤ 100000 ∧ 2 * (b * (fs.length + 1) + 1) + 1 ≤ 4000
def fvs (fs : List (Int × Int)) : Av := .v (.d (.list (fs.map fd)))
theorem le_len {α : Type} {pre post : List α} {x : α} {xs : List α} (e : xs = pre ++ x :: post) : pre.length + 1 ≤ xs.length := by
  rw [e, List.length_append, List.length_cons]; omega
theorem f_scaled {fs : List (Int × Int)} {n b : Nat} (F : Fs fs n b) : (fn_scaled T).f [fvs fs] = .ok (.d (.tuple [.list ((numF fs (lcmF fs)).map .int), .int (lcmF fs)])) := by
  obtain ⟨l0, l1, l2⟩ := lcm_fold fs 1 (by decide) fun f hf => (F.is f hf).pos
  have lb := lcm_bd (b := b) fs 1 1 (by decide) F.den
  have hlen := F.len
  have n0 := F.n0
  have hbl : b * fs.length ≤ b * (fs.length + 1) := Nat.mul_le_mul_left _ (by omega)
  have hb9 : b ≤ b * (fs.length + 1) := Nat.le_mul_of_pos_right _ (by omega)
  rw [fnf_scaled]
  refine runX_of ?_
  unfold xs_scaled
  refine run_nx (st1 := [.v (.d (.list (fs.map fd))), .v (.d (.int 1)), .x]) (by unfold fvs; walk_at "ev") ?_
  obtain ⟨⟨s, z⟩, ⟨hs, hsb, hz⟩, hl⟩ := lp_ex (K := K) (g := .name 2) (s := xb_scaled_1 T) (en := fd) (xs := fs) (fun y : Int × Sv => [.v (.d (.list (fs.map fd))), .v (.d (.int y.1)), y.2])
    (fun pre y => y.1 = pre.foldl (fun s f => ((Nat.lcm s.natAbs f.2.natAbs : Nat) : Int)) 1 ∧ y.1.natAbs < 2 ^ (1 + b * pre.length) ∧ (y.2 = .x ∨ ∃ a, y.2 = .v a)) (x0 := (1, .x)) ⟨rfl, by simp, .inl rfl⟩ (by
      rintro pre x post ⟨s, z⟩ e ⟨h1, h2, -⟩
      have h1 : s = _ := h1
      have h2 : s.natAbs < 2 ^ (1 + b * pre.length) := h2
      have hx : x ∈ fs := by rw [e]; simp
      have hle := le_len e
      have hbp : b * pre.length ≤ b * fs.length := Nat.mul_le_mul_left _ (by omega)
      have hd := F.den x hx
      refine ⟨(((Nat.lcm s.natAbs x.2.natAbs : Nat) : Int), .v (.d (fd x))), ⟨?_, ?_, .inr ⟨_, rfl⟩⟩, _, by walk_at "ev"; rfl, .inl ?_⟩
      · show _ = (pre ++ [x]).foldl _ _
        rw [List.foldl_append, ← h1]
        rfl
      · show (((Nat.lcm s.natAbs x.2.natAbs : Nat) : Int)).natAbs < _
        rw [Int.natAbs_natCast]
        refine Nat.lt_of_le_of_lt (PySem.W.mc_lcm_le _ _) ?_
        rw [List.length_append, List.length_singleton, Nat.mul_succ, ← Nat.add_assoc, Nat.pow_add _ _ b]
        exact Nat.mul_lt_mul'' h2 hd
      · have c1 : s.natAbs.log2 < 9000 ∧ x.2.natAbs.log2 < 9000 := ⟨Nat.lt_of_lt_of_le (PySem.Flt.log2_lt_of (by omega) h2) (by omega), Nat.lt_of_lt_of_le (PySem.Flt.log2_lt_of (by omega) hd) (by omega)⟩
        unfold xb_scaled_1
        clear h1 h2 hd hbp hle e lb l0 l1 l2 hbl hlen n0 hb9
        walk_at "ev")
  have hs : s = lcmF fs := hs
  subst hs
  refine run_nx (for_nx (ds := fs.map fd) (by walk_at "ev") hl) ?_
  have hc : lcL (K := K) (XG.name 2) .yes (.op O2.mul (.op O2.ixT (.var 2) (.int 0)) (.op O2.div (.var 1) (.op O2.ixT (.var 2) (.int 1)))) [.v (.d (.list (fs.map fd))), .v (.d (.int (lcmF fs))), .x] (fs.map fd) = some ((numF fs (lcmF fs)).map .int) := by
    unfold numF
    rw [List.map_map]
    refine lcL_map fun f hf => ?_
    have hd := F.den f hf
    have hn := F.num f hf
    have c1 : CDivW (lcmF fs) f.2 := divW (F.is f hf).pos hd (by omega)
    have c2 : CMulU f.1 (lcmF fs / f.2) := by
      refine mulU hn (b := 1 + b * fs.length) (Nat.lt_of_le_of_lt (ediv_abs (F.is f hf).pos (l2 f hf)) lb) ?_
      have : n * 2 ≤ (n + b + 2) * (fs.length + 2) := Nat.mul_le_mul (by omega) (by omega)
      omega
    rw [lcOne_eq]
    clear lb l0 l1 l2 hd hn hl hsb hbl hlen n0 hb9
    walk_at "ev"
    rfl
  have hlen1 : (fs.map fd).length ≤ 100000 := by
    rw [List.length_map]
    have : 1 * (fs.length + 2) ≤ (n + b + 2) * (fs.length + 2) := Nat.mul_le_mul (by omega) (Nat.le_refl _)
    omega
  have hg : ((XG.name 2 : XG K).T.all fun i => decide (i ∈ [2])) = true := rfl
  rcases hz with hz | ⟨a, hz⟩
  · have hz : z = .x := hz
    subst hz
    clear lb l0 l1 l2 hl hsb hbl hlen n0 hb9 hs hz
    walk_at "evh"
  · have hz : z = .v a := hz
    subst hz
    clear lb l0 l1 l2 hl hsb hbl hlen n0 hb9 hs hz
    walk_at "evh"
theorem f_added {fs : List (Int × Int)} {n b : Nat} (F : Fs fs n b) : (fn_added T).f [fvs fs] = .ok (.d (fd (low (numF fs (lcmF fs)).sum (lcmF fs)))) := by
  obtain ⟨l0, -, -⟩ := lcm_fold fs 1 (by decide) fun f hf => (F.is f hf).pos
  have lb := lcm_bd (b := b) fs 1 1 (by decide) F.den
  have hlen := F.len
  have n0 := F.n0
  have hbl : b * fs.length ≤ b * (fs.length + 1) := Nat.mul_le_mul_left _ (by omega)
  have h1 := f_scaled T F
  have hm1 := fnm_scaled T
  have hm2 := fnm_fraction T
  have h2 := f_fraction T (p := (numF fs (lcmF fs)).sum) (q := lcmF fs) (k := 1 + b * fs.length) (by have : 0 < lcmF fs := l0; omega) (by omega) (by omega) lb
  rw [fnf_added]
  refine runX_of ?_
  unfold xs_added
  unfold fvs at *
  clear lb l0 hbl hlen n0
  refine run_nx (st1 := [.v (.d (.list (fs.map fd))), .v (.d (.list ((numF fs (lcmF fs)).map .int))), .v (.d (.int (lcmF fs)))]) (by walk_at "evh") ?_
  clear h1
  walk_at "ev"
  simp only [sum_f]
  walk_at "evh"
/-! the law's sum, one by one -/
def addF (t x : Int × Int) : Int × Int := low (t.1 * x.2 + x.1 * t.2) (t.2 * x.2)
theorem isF_one : IsF (0, 1) := ⟨by decide, by decide⟩
structure AddP (fs pre : List (Int × Int)) (n b : Nat) (S : Int) (t : Int × Int) : Prop where
  is : IsF t
  num : t.1.natAbs < 2 ^ ((n + b + 2) * (pre.length + 1))
  den : t.2.natAbs < 2 ^ (b * pre.length + 1)
  val : t.1 * S = (numF pre S).sum * t.2
theorem add_step {fs pre post : List (Int × Int)} {x t : Int × Int} {n b : Nat} {S : Int} (F : Fs fs n b) (hS : S ≠ 0) (hd : ∀ f ∈ fs, f.2 ∣ S) (e : fs = pre ++ x :: post) (h : AddP fs pre n b S t) : AddP fs (pre ++ [x]) n b S (addF t x) ∧ Sz t x ((n + b + 2) * (pre.length + 1)) (b * pre.length + 1) b := by
  have hx : x ∈ fs := by rw [e]; simp
  have hle := le_len e
  have i := F.is x hx
  have nx := F.num x hx
  have dx := F.den x hx
  have n0 := F.n0
  have hlen := F.len
  have p1 := h.is.pos
  have p2 := i.pos
  have hq : t.2 * x.2 ≠ 0 := Int.mul_ne_zero (by omega) (by omega)
  have c1 : (n + b + 2) * (pre.length + 1) ≤ (n + b + 2) * (fs.length + 2) := Nat.mul_le_mul_left _ (by omega)
  have c2 : b * pre.length + b ≤ b * (fs.length + 1) := by rw [← Nat.mul_succ]; exact Nat.mul_le_mul_left _ (by omega)
  have c3 : (n + b + 2) * 1 ≤ (n + b + 2) * (pre.length + 1) := Nat.mul_le_mul_left _ (by omega)
  have c4 : b * (pre.length + 1) ≤ (n + b + 2) * (pre.length + 1) := Nat.mul_le_mul_right _ (by omega)
  have c5 : b * (pre.length + 1) = b * pre.length + b := Nat.mul_succ _ _
  have c6 : n + b * (pre.length + 1) ≤ (n + b + 2) * (pre.length + 1) := by
    rw [Nat.add_mul, Nat.add_mul]
    have := Nat.le_mul_of_pos_right n (show 0 < pre.length + 1 by omega)
    omega
  have sz : Sz t x ((n + b + 2) * (pre.length + 1)) (b * pre.length + 1) b := ⟨h.num, Nat.lt_of_lt_of_le nx (Nat.pow_le_pow_right (by decide) (by omega)), h.den, dx, ⟨by omega, by omega, by omega⟩, ⟨by omega, by omega⟩⟩
  refine ⟨⟨low_is hq, ?_, ?_, ?_⟩, sz⟩
  · refine Nat.lt_of_le_of_lt (low_bd1 hq) ?_
    rw [List.length_append, List.length_singleton]
    have a1 : (t.1 * x.2).natAbs < 2 ^ ((n + b + 2) * (pre.length + 1) + b) := mulB h.num dx
    have a2 : (x.1 * t.2).natAbs < 2 ^ ((n + b + 2) * (pre.length + 1) + b) := Nat.lt_of_lt_of_le (mulB nx h.den) (Nat.pow_le_pow_right (by decide) (by omega))
    have a3 : (2 : Nat) ^ ((n + b + 2) * (pre.length + 1) + b) + 2 ^ ((n + b + 2) * (pre.length + 1) + b) = 2 ^ ((n + b + 2) * (pre.length + 1) + b + 1) := by rw [Nat.pow_succ]; omega
    have a4 : (2 : Nat) ^ ((n + b + 2) * (pre.length + 1) + b + 1) ≤ 2 ^ ((n + b + 2) * (pre.length + 1 + 1)) := Nat.pow_le_pow_right (by decide) (by rw [Nat.mul_succ _ (pre.length + 1)]; omega)
    have a5 := Int.natAbs_add_le (t.1 * x.2) (x.1 * t.2)
    omega
  · refine Nat.lt_of_le_of_lt (low_bd2 hq) ?_
    rw [List.length_append, List.length_singleton]
    refine Nat.lt_of_lt_of_le (mulB h.den dx) (Nat.pow_le_pow_right (by decide) ?_)
    rw [Nat.mul_succ]; omega
  · have v := low_val (p := t.1 * x.2 + x.1 * t.2) hq
    show (low (t.1 * x.2 + x.1 * t.2) (t.2 * x.2)).1 * S = _ * (low (t.1 * x.2 + x.1 * t.2) (t.2 * x.2)).2
    have hn : (numF (pre ++ [x]) S).sum = (numF pre S).sum + x.1 * (S / x.2) := by unfold numF; simp
    rw [hn]
    obtain ⟨m, hm⟩ := hd x hx
    have hm2 : S / x.2 = m := by rw [hm, Int.mul_ediv_cancel_left _ (by omega)]
    rw [hm2]
    refine Int.eq_of_mul_eq_mul_right hq ?_
    have hv := h.val
    generalize (low (t.1 * x.2 + x.1 * t.2) (t.2 * x.2)).1 = u at *
    generalize (low (t.1 * x.2 + x.1 * t.2) (t.2 * x.2)).2 = w at *
    generalize (numF pre S).sum = N at *
    calc u * S * (t.2 * x.2) = (u * (t.2 * x.2)) * S := by grind
      _ = (t.1 * x.2 + x.1 * t.2) * w * S := by rw [v]
      _ = (t.1 * S) * (x.2 * w) + x.1 * t.2 * w * S := by grind
      _ = (N * t.2) * (x.2 * w) + x.1 * t.2 * w * (x.2 * m) := by rw [hv, ← hm]
      _ = (N + x.1 * m) * w * (t.2 * x.2) := by grind
theorem f_law_added {fs : List (Int × Int)} {n b : Nat} (F : Fs fs n b) : (fn_law_added T).f [fvs fs] = .ok (.d (fd (low (numF fs (lcmF fs)).sum (lcmF fs)))) := by
  obtain ⟨l0, -, l2⟩ := lcm_fold fs 1 (by decide) fun f hf => (F.is f hf).pos
  have hS : lcmF fs ≠ 0 := by have : 0 < lcmF fs := l0; omega
  have n0 := F.n0
  rw [fnf_law_added]
  refine runX_of ?_
  unfold xs_law_added
  refine run_nx (st1 := [.v (.d (.list (fs.map fd))), .v (.d (fd (0, 1))), .x]) (by unfold fvs; walk_at "ev") ?_
  obtain ⟨⟨t, z⟩, ht, hl⟩ := lp_ex (K := K) (g := .name 2) (s := xb_law_added_1 T) (en := fd) (xs := fs) (fun y : (Int × Int) × Sv => [.v (.d (.list (fs.map fd))), .v (.d (fd y.1)), y.2])
    (fun pre y => AddP fs pre n b (lcmF fs) y.1) (x0 := ((0, 1), .x)) ⟨isF_one, Nat.two_pow_pos _, by show 1 < 2 ^ (b * 0 + 1); rw [Nat.mul_zero]; decide, by simp [numF]⟩ (by
      rintro pre x post ⟨t, z⟩ e h
      obtain ⟨h1, sz⟩ := add_step F hS l2 e h
      have hx : x ∈ fs := by rw [e]; simp
      have p1 := h.is.pos
      have p2 := (F.is x hx).pos
      have hp := f_law_plus T sz (by omega) (by omega)
      have hm := fnm_law_plus T
      refine ⟨(addF t x, .v (.d (fd x))), h1, _, by walk_at "ev"; rfl, .inl ?_⟩
      unfold xb_law_added_1 addF
      clear h1 sz h p1 p2 n0 l2 l0
      walk_at "evh")
  refine run_nx (for_nx (ds := fs.map fd) (by walk_at "ev") hl) ?_
  have ht : AddP fs fs n b (lcmF fs) t := ht
  have hp := ht.is.pos
  have e : low (numF fs (lcmF fs)).sum (lcmF fs) = t := by
    rw [← low_self ht.is]
    exact low_ext hS (by omega) ht.val.symm
  rw [e]
  clear hl n0 l2 l0
  walk_at "ev"
end Q

set_option Elab.async false
set_option linter.all false
set_option maxRecDepth 100000
set_option maxHeartbeats 4000000
namespace Q
open PySem PySem.Spec PyProof.Rows L2 Z R QF
local macro_rules | `(tactic| walk_at "ds") => `(tactic| first | assumption | decide | omega | exact ⟨by decide, by decide⟩ | exact ⟨by omega, by omega⟩ | exact div_lit ⟨by omega, by omega⟩ | exact mul_r (by omega) | exact mul_l (by omega))
local macro_rules | `(tactic| walk_at "ev") => `(tactic| simp (disch := walk_at "ds") only [bind_ok, bind_ex, bind_no, oc_k, oc_x, oc_n, of_some, of_none, okV_ok, okV_ex, okV_no, bOf_b, iOf_i, asL_l, asS_l, asS_s, lOf_l, var_ev, var_el, var_es, int_ev, bool_ev, non_ev, str_ev, av_f, av_t, op_ev, op_el, op_es, opN_ev, e_ev, e_el, e_es, neg_ev, bv_eq, iv_eq, andV_ev, orV_ev, notV_ev, ife_ev, ife_el, ife_es, chain_ev, tup_ev, dev_eq, avD_nil, avD_cons, lst_ev, anil_ev, acons_ev, bi_ev, biN_ev, call_ev, call_el, call_es, callN_ev, meth_ev, meth_el, meth_es, methN_ev, make_ev, fld_ev, fld_el, fld_es, test_ev, B_ev, and_ev, or_ev, not_ev, truthL_ev, ifeT_ev, yes_ev, onone_ev, osome_ev, sl_ev, slS_ev, lend_ev, blank_ev, ilist_ev, irng1_ev, irng2_ev, avI1_i, avI2_i, ienum_ev, izip_ev, gname_ev, gnil_ev, gcons_ev, gtup_ev, glst_ev, lc_ev, nx_ev, brk_ev, cnt_ev, seq_ev, set_ev, setN_ev, asg_ev, par_ev, aug_ev, seti_ev, app_ev, ite_ev, ret_ev, retN_ev, retO_ev, retV_ev, drop_ev, frz_ev, for_ev, lp_nil, raise_ev, try_ev, add_ka, add_kb, add_f, sub_ka, sub_kb, sub_f, band_ka, band_kb, band_f, lt_ka, lt_kb, lt_f, le_ka, le_kb, le_f, gt_ka, gt_kb, gt_f, ge_ka, ge_kb, ge_f, mul_ka, mul_kb, div_ka, div_kb, divU_ka, divU_kb, mod_ka, mod_kb, pow_ka, pow_kb, shl_ka, shl_kb, shr_ka, shr_kb, eq_ka, eq_kb, ne_ka, ne_kb, eqD_ka, eqD_kb, neD_ka, neD_kb, isN_ka, isN_kb, notN_ka, notN_kb, ixS_ka, ixS_kb, ixT_ka, ixT_kb, ixL_ka, ixL_kb, inL_ka, inL_kb, notInL_ka, notInL_kb, cat_ka, cat_kb, rep_ka, rep_kb, eq_i, eq_s, ne_i, ne_s, isN_f, notN_f, ixL_f, ixT_f, ixS_f, len_f, lenS_f, abs_f, min2_f, max2_f, int_f, intB_f, gcd_f, listN_f, runX_eq, res_rt, res_ro, res_nx, res_xc, at0, at1, at2, rng_if, lcL_nil, mul_f, div_f, divU_f, mod_f, pow_f, shl_f, shr_f, cat_f, lcm_f, List.getElem?_cons_zero, List.getElem?_cons_succ, List.set_cons_zero, List.set_cons_succ, List.length_cons, List.length_nil, Nat.reduceAdd, Nat.reduceLT, Nat.reduceLeDiff, Nat.reduceEqDiff, if_true, if_false, Option.map_some, Option.map_none, Option.bind_some, Option.bind_none, reduceIte, decide_true, decide_false, R.start, avS, R.frz, at0, at1, at2, allXb, Sv.isX, List.all_cons, List.all_nil, Bool.and_true, Bool.true_and, Bool.and_false, Bool.false_and, List.flatten_cons, List.map_cons, List.map_nil, List.cons_append, List.nil_append, List.replicate_succ, List.replicate_zero, Bool.not_true, Bool.not_false, Nat.reduceMul, Nat.reduceSub, Nat.zero_add, and_self, and_true, true_and, and_false, false_and])
local macro_rules | `(tactic| walk_at "evh") => `(tactic| simp (disch := walk_at "ds") only [bind_ok, bind_ex, bind_no, oc_k, oc_x, oc_n, of_some, of_none, okV_ok, okV_ex, okV_no, bOf_b, iOf_i, asL_l, asS_l, asS_s, lOf_l, var_ev, var_el, var_es, int_ev, bool_ev, non_ev, str_ev, av_f, av_t, op_ev, op_el, op_es, opN_ev, e_ev, e_el, e_es, neg_ev, bv_eq, iv_eq, andV_ev, orV_ev, notV_ev, ife_ev, ife_el, ife_es, chain_ev, tup_ev, dev_eq, avD_nil, avD_cons, lst_ev, anil_ev, acons_ev, bi_ev, biN_ev, call_ev, call_el, call_es, callN_ev, meth_ev, meth_el, meth_es, methN_ev, make_ev, fld_ev, fld_el, fld_es, test_ev, B_ev, and_ev, or_ev, not_ev, truthL_ev, ifeT_ev, yes_ev, onone_ev, osome_ev, sl_ev, slS_ev, lend_ev, blank_ev, ilist_ev, irng1_ev, irng2_ev, avI1_i, avI2_i, ienum_ev, izip_ev, gname_ev, gnil_ev, gcons_ev, gtup_ev, glst_ev, lc_ev, nx_ev, brk_ev, cnt_ev, seq_ev, set_ev, setN_ev, asg_ev, par_ev, aug_ev, seti_ev, app_ev, ite_ev, ret_ev, retN_ev, retO_ev, retV_ev, drop_ev, frz_ev, for_ev, lp_nil, raise_ev, try_ev, add_ka, add_kb, add_f, sub_ka, sub_kb, sub_f, band_ka, band_kb, band_f, lt_ka, lt_kb, lt_f, le_ka, le_kb, le_f, gt_ka, gt_kb, gt_f, ge_ka, ge_kb, ge_f, mul_ka, mul_kb, div_ka, div_kb, divU_ka, divU_kb, mod_ka, mod_kb, pow_ka, pow_kb, shl_ka, shl_kb, shr_ka, shr_kb, eq_ka, eq_kb, ne_ka, ne_kb, eqD_ka, eqD_kb, neD_ka, neD_kb, isN_ka, isN_kb, notN_ka, notN_kb, ixS_ka, ixS_kb, ixT_ka, ixT_kb, ixL_ka, ixL_kb, inL_ka, inL_kb, notInL_ka, notInL_kb, cat_ka, cat_kb, rep_ka, rep_kb, eq_i, eq_s, ne_i, ne_s, isN_f, notN_f, ixL_f, ixT_f, ixS_f, len_f, lenS_f, abs_f, min2_f, max2_f, int_f, intB_f, gcd_f, listN_f, runX_eq, res_rt, res_ro, res_nx, res_xc, at0, at1, at2, rng_if, lcL_nil, mul_f, div_f, divU_f, mod_f, pow_f, shl_f, shr_f, cat_f, lcm_f, List.getElem?_cons_zero, List.getElem?_cons_succ, List.set_cons_zero, List.set_cons_succ, List.length_cons, List.length_nil, Nat.reduceAdd, Nat.reduceLT, Nat.reduceLeDiff, Nat.reduceEqDiff, if_true, if_false, Option.map_some, Option.map_none, Option.bind_some, Option.bind_none, reduceIte, decide_true, decide_false, R.start, avS, R.frz, at0, at1, at2, allXb, Sv.isX, List.all_cons, List.all_nil, Bool.and_true, Bool.true_and, Bool.and_false, Bool.false_and, List.flatten_cons, List.map_cons, List.map_nil, List.cons_append, List.nil_append, List.replicate_succ, List.replicate_zero, Bool.not_true, Bool.not_false, Nat.reduceMul, Nat.reduceSub, Nat.zero_add, and_self, and_true, true_and, and_false, false_and, *])
variable {K : PySem.W.Frag} {mg : Str → Option Value} (T : Tx K mg)
theorem atI_in {α β : Type} {en : α → β} {xs : List α} {i : Int} {x : α} (h0 : 0 ≤ i) (h : xs[i.toNat]? = some x) : atI (xs.map en) i = some (en x) := by
  have hl : i.toNat < xs.length := (List.getElem?_eq_some_iff.mp h).1
  have : i < (((xs.map en).length : Nat) : Int) := by rw [List.length_map]; omega
  unfold atI ixN
  rw [if_pos h0, if_pos this]
  show (xs.map en)[i.toNat]? = _
  rw [List.getElem?_map, h]
  rfl
theorem ixN_in {n : Nat} {i : Int} (h0 : 0 ≤ i) (h : i < n) : ixN n i = some i.toNat := by
  unfold ixN
  rw [if_pos h0, if_pos h]
/-- numbers as the law draws them -/
structure Nums (ns : List Int) (m : Nat) : Prop where
  len : ns.length = m
  bd : ∀ n ∈ ns, 0 ≤ n ∧ n < 65536
theorem Nums.at_ {ns : List Int} {m : Nat} (h : Nums ns m) {i : Int} (h0 : 0 ≤ i) (h1 : i < m) : ∃ v, ns[i.toNat]? = some v ∧ atI (ns.map PyData.int) i = some (.int v) ∧ 0 ≤ v ∧ v < 65536 := by
  have hl : i.toNat < ns.length := by rw [h.len]; omega
  have e : ns[i.toNat]? = some ns[i.toNat] := List.getElem?_eq_getElem hl
  exact ⟨_, e, atI_in h0 e, h.bd _ (List.getElem_mem hl)⟩
def nv (ns : List Int) : Av := .v (.d (.list (ns.map .int)))
theorem cutD_all {ds : List PyData} {k : Int} (h0 : 0 ≤ k) (h : (ds.length : Int) ≤ k) : Z.cutD ds none (some k) = ds := by
  unfold Z.cutD
  have e1 : HT.sIx ds.length 0 none = 0 := rfl
  have e2 : HT.sIx ds.length ds.length (some k) = ds.length := by
    show (if k < 0 then _ else min k.toNat ds.length) = _
    rw [if_neg (by omega)]
    omega
  rw [e1, e2]
  simp
theorem cutD_init {ds : List PyData} {d : PyData} : Z.cutD (ds ++ [d]) none (some (-1)) = ds := by
  unfold Z.cutD
  have e1 : HT.sIx (ds ++ [d]).length 0 none = 0 := rfl
  have e2 : HT.sIx (ds ++ [d]).length (ds ++ [d]).length (some (-1)) = ds.length := by
    show (if (-1 : Int) < 0 then ((-1 : Int) + ((ds ++ [d]).length : Int)).toNat else min (-1 : Int).toNat (ds ++ [d]).length) = _
    rw [if_pos (by decide), List.length_append, List.length_singleton]
    omega
  rw [e1, e2]
  simp
def absI (n : Int) : Int := if n < 0 then -n else n
theorem map_set_int (xs : List Int) (j : Nat) (v : Int) : (xs.map PyData.int).set j (.int v) = (xs.set j v).map .int := by rw [List.map_set]
theorem app_int (xs : List Int) (v : Int) : xs.map PyData.int ++ [.int v] = (xs ++ [v]).map .int := by rw [List.map_append]; rfl
structure NumP (L : Nat) (c : Nat) (y : List Int × List Int × List Int × Sv × Sv) : Prop where
  r : y.1.length = L
  m : y.2.1.length = L
  n : Nums y.2.2.1 c
def numE (xs : List Int) (many : Nat) (y : List Int × List Int × List Int × Sv × Sv) : List Sv := [.v (.s xs), .v (.d (.int many)), .ol (y.1.map .int), .ol (y.2.1.map .int), .ol (y.2.2.1.map .int), y.2.2.2.1, y.2.2.2.2, .x]
theorem num_loop {xs : List Int} {many L : Nat} (hL : 0 < L) (hm : many ≤ 100000) {y0 : List Int × List Int × List Int × Sv × Sv} (h0 : NumP L 0 y0) : ∃ y, NumP L many y ∧ lp (K := K) (.name 5) (xb_law_numbers_1 T) (irange 0 many) (numE xs many y0) = .nx (numE xs many y) := by
  obtain ⟨y, hy, hl⟩ := lp_ex (K := K) (g := .name 5) (s := xb_law_numbers_1 T) (en := fun k : Nat => PyData.int (0 + (k : Int))) (xs := List.range many) (numE xs many) (fun pre y => NumP L pre.length y) (x0 := y0) h0 (by
    rintro pre k post ⟨r, m, n, z5, z6⟩ e ⟨hr, hm2, hn⟩
    have hr : r.length = L := hr
    have hm2 : m.length = L := hm2
    have hn : Nums n pre.length := hn
    have hlen := le_len e
    rw [List.length_range] at hlen
    have a0 : 0 ≤ (0 + (k : Int)) % (((r.map PyData.int).length : Nat) : Int) := Int.emod_nonneg _ (by rw [List.length_map]; omega)
    have a1 : (0 + (k : Int)) % (((r.map PyData.int).length : Nat) : Int) < L := by
      have := Int.emod_lt_of_pos (0 + (k : Int)) (b := (((r.map PyData.int).length : Nat) : Int)) (by rw [List.length_map]; omega)
      rw [List.length_map] at this ⊢
      omega
    have pl : (0 : Int) < (((r.map PyData.int).length : Nat) : Int) := by rw [List.length_map]; omega
    obtain ⟨at_, hat⟩ : ∃ a, a = (0 + (k : Int)) % (((r.map PyData.int).length : Nat) : Int) := ⟨_, rfl⟩
    rw [← hat] at a0 a1
    have i1 : at_.toNat < r.length := by omega
    have i2 : at_.toNat < m.length := by omega
    have e1 : atI (r.map PyData.int) at_ = some (.int r[at_.toNat]) := atI_in a0 (List.getElem?_eq_getElem i1)
    have e2 : atI (m.map PyData.int) at_ = some (.int m[at_.toNat]) := atI_in a0 (List.getElem?_eq_getElem i2)
    have x1 : ixN (r.map PyData.int).length at_ = some at_.toNat := ixN_in a0 (by rw [List.length_map]; omega)
    have x2 : ixN (m.map PyData.int).length at_ = some at_.toNat := ixN_in a0 (by rw [List.length_map]; omega)
    have hn1 : (n.map PyData.int).length < 1000000 := by rw [List.length_map, hn.len]; omega
    have ap : ∀ v : Int, 0 ≤ v → v < 65536 → Nums (n ++ [v]) (pre ++ [k]).length := fun v h1 h2 => ⟨by rw [List.length_append, List.length_append, hn.len]; rfl, fun w hw => by
      rcases List.mem_append.mp hw with z | z
      · exact hn.bd w z
      · rw [List.mem_singleton.mp z]; exact ⟨h1, h2⟩⟩
    have set1 : (XS.set 6 (.op O2.mod (.bi Bi.int (.cons false (.var 5) .nil)) (.bi Bi.len (.cons true (.var 2) .nil))) : XS K).ev [.v (.s xs), .v (.d (.int many)), .ol (r.map .int), .ol (m.map .int), .ol (n.map .int), .v (.d (.int (0 + (k : Int)))), z6, .x] = .nx [.v (.s xs), .v (.d (.int many)), .ol (r.map .int), .ol (m.map .int), .ol (n.map .int), .v (.d (.int (0 + (k : Int)))), .v (.d (.int at_)), .x] := by
      rw [hat]
      clear hat e1 e2 x1 x2 hn1 ap a0 a1 i1 i2 e hr hm2 hn
      walk_at "ev"
    generalize r[at_.toNat] = R at e1
    generalize m[at_.toNat] = M at e2
    by_cases c : (10 : Int) ^ (18 : Int).toNat ≤ R
    · have c' : decide ((10 : Int) ^ (18 : Int).toNat ≤ R) = true := decide_eq_true c
      refine ⟨(r.set at_.toNat (R / 65536), m, n ++ [R % 65536], .v (.d (.int (0 + (k : Int)))), .v (.d (.int at_))), ⟨by show (r.set _ _).length = L; rw [List.length_set]; exact hr, hm2, ap _ (Int.emod_nonneg _ (by decide)) (Int.emod_lt_of_pos _ (by decide))⟩, _, by unfold numE; walk_at "ev"; rfl, .inl ?_⟩
      unfold xb_law_numbers_1 numE
      refine run_nx set1 ?_
      rw [← map_set_int, ← app_int]
      clear hat a0 a1 i1 i2 e hr hm2 hn ap set1 c pl
      walk_at "evh"
    · have c' : decide ((10 : Int) ^ (18 : Int).toNat ≤ R) = false := decide_eq_false c
      obtain ⟨M2, hM2⟩ : ∃ M2, M2 = (M * 16807 + 12345 + 7919 * (0 + (k : Int))) % 2147483647 := ⟨_, rfl⟩
      have e3 : atI ((m.map PyData.int).set at_.toNat (.int M2)) at_ = some (.int M2) := by
        rw [map_set_int]
        exact atI_in a0 (by rw [List.getElem?_set_self i2])
      refine ⟨(r, m.set at_.toNat M2, n ++ [(R + M2 / 5) % 65536], .v (.d (.int (0 + (k : Int)))), .v (.d (.int at_))), ⟨hr, by show (m.set _ _).length = L; rw [List.length_set]; exact hm2, ap _ (Int.emod_nonneg _ (by decide)) (Int.emod_lt_of_pos _ (by decide))⟩, _, by unfold numE; walk_at "ev"; rfl, .inl ?_⟩
      unfold xb_law_numbers_1 numE
      refine run_nx set1 ?_
      rw [← map_set_int, ← app_int]
      clear hat a0 a1 i1 i2 e hr hm2 hn ap set1 c pl
      subst hM2
      walk_at "evh")
  rw [List.length_range] at hy
  exact ⟨y, hy, hl⟩
end Q

set_option Elab.async false
set_option linter.all false
set_option maxRecDepth 100000
set_option maxHeartbeats 4000000
namespace Q
open PySem PySem.Spec PyProof.Rows L2 Z R QF
local macro_rules | `(tactic| walk_at "ds") => `(tactic| first | assumption | decide | omega | exact ⟨by decide, by decide⟩ | exact ⟨by omega, by omega⟩ | exact div_lit ⟨by omega, by omega⟩ | exact mul_r (by omega) | exact mul_l (by omega))
local macro_rules | `(tactic| walk_at "ev") => `(tactic| simp (disch := walk_at "ds") only [bind_ok, bind_ex, bind_no, oc_k, oc_x, oc_n, of_some, of_none, okV_ok, okV_ex, okV_no, bOf_b, iOf_i, asL_l, asS_l, asS_s, lOf_l, var_ev, var_el, var_es, int_ev, bool_ev, non_ev, str_ev, av_f, av_t, op_ev, op_el, op_es, opN_ev, e_ev, e_el, e_es, neg_ev, bv_eq, iv_eq, andV_ev, orV_ev, notV_ev, ife_ev, ife_el, ife_es, chain_ev, tup_ev, dev_eq, avD_nil, avD_cons, lst_ev, anil_ev, acons_ev, bi_ev, biN_ev, call_ev, call_el, call_es, callN_ev, meth_ev, meth_el, meth_es, methN_ev, make_ev, fld_ev, fld_el, fld_es, test_ev, B_ev, and_ev, or_ev, not_ev, truthL_ev, ifeT_ev, yes_ev, onone_ev, osome_ev, sl_ev, slS_ev, lend_ev, blank_ev, ilist_ev, irng1_ev, irng2_ev, avI1_i, avI2_i, ienum_ev, izip_ev, gname_ev, gnil_ev, gcons_ev, gtup_ev, glst_ev, lc_ev, nx_ev, brk_ev, cnt_ev, seq_ev, set_ev, setN_ev, asg_ev, par_ev, aug_ev, seti_ev, app_ev, ite_ev, ret_ev, retN_ev, retO_ev, retV_ev, drop_ev, frz_ev, for_ev, lp_nil, raise_ev, try_ev, add_ka, add_kb, add_f, sub_ka, sub_kb, sub_f, band_ka, band_kb, band_f, lt_ka, lt_kb, lt_f, le_ka, le_kb, le_f, gt_ka, gt_kb, gt_f, ge_ka, ge_kb, ge_f, mul_ka, mul_kb, div_ka, div_kb, divU_ka, divU_kb, mod_ka, mod_kb, pow_ka, pow_kb, shl_ka, shl_kb, shr_ka, shr_kb, eq_ka, eq_kb, ne_ka, ne_kb, eqD_ka, eqD_kb, neD_ka, neD_kb, isN_ka, isN_kb, notN_ka, notN_kb, ixS_ka, ixS_kb, ixT_ka, ixT_kb, ixL_ka, ixL_kb, inL_ka, inL_kb, notInL_ka, notInL_kb, cat_ka, cat_kb, rep_ka, rep_kb, eq_i, eq_s, ne_i, ne_s, isN_f, notN_f, ixL_f, ixT_f, ixS_f, len_f, lenS_f, abs_f, min2_f, max2_f, int_f, intB_f, gcd_f, listN_f, runX_eq, res_rt, res_ro, res_nx, res_xc, at0, at1, at2, rng_if, lcL_nil, mul_f, div_f, divU_f, mod_f, pow_f, shl_f, shr_f, cat_f, lcm_f, List.getElem?_cons_zero, List.getElem?_cons_succ, List.set_cons_zero, List.set_cons_succ, List.length_cons, List.length_nil, Nat.reduceAdd, Nat.reduceLT, Nat.reduceLeDiff, Nat.reduceEqDiff, if_true, if_false, Option.map_some, Option.map_none, Option.bind_some, Option.bind_none, reduceIte, decide_true, decide_false, R.start, avS, R.frz, at0, at1, at2, allXb, Sv.isX, List.all_cons, List.all_nil, Bool.and_true, Bool.true_and, Bool.and_false, Bool.false_and, List.flatten_cons, List.map_cons, List.map_nil, List.cons_append, List.nil_append, List.replicate_succ, List.replicate_zero, Bool.not_true, Bool.not_false, Nat.reduceMul, Nat.reduceSub, Nat.zero_add, and_self, and_true, true_and, and_false, false_and])
local macro_rules | `(tactic| walk_at "evh") => `(tactic| simp (disch := walk_at "ds") only [bind_ok, bind_ex, bind_no, oc_k, oc_x, oc_n, of_some, of_none, okV_ok, okV_ex, okV_no, bOf_b, iOf_i, asL_l, asS_l, asS_s, lOf_l, var_ev, var_el, var_es, int_ev, bool_ev, non_ev, str_ev, av_f, av_t, op_ev, op_el, op_es, opN_ev, e_ev, e_el, e_es, neg_ev, bv_eq, iv_eq, andV_ev, orV_ev, notV_ev, ife_ev, ife_el, ife_es, chain_ev, tup_ev, dev_eq, avD_nil, avD_cons, lst_ev, anil_ev, acons_ev, bi_ev, biN_ev, call_ev, call_el, call_es, callN_ev, meth_ev, meth_el, meth_es, methN_ev, make_ev, fld_ev, fld_el, fld_es, test_ev, B_ev, and_ev, or_ev, not_ev, truthL_ev, ifeT_ev, yes_ev, onone_ev, osome_ev, sl_ev, slS_ev, lend_ev, blank_ev, ilist_ev, irng1_ev, irng2_ev, avI1_i, avI2_i, ienum_ev, izip_ev, gname_ev, gnil_ev, gcons_ev, gtup_ev, glst_ev, lc_ev, nx_ev, brk_ev, cnt_ev, seq_ev, set_ev, setN_ev, asg_ev, par_ev, aug_ev, seti_ev, app_ev, ite_ev, ret_ev, retN_ev, retO_ev, retV_ev, drop_ev, frz_ev, for_ev, lp_nil, raise_ev, try_ev, add_ka, add_kb, add_f, sub_ka, sub_kb, sub_f, band_ka, band_kb, band_f, lt_ka, lt_kb, lt_f, le_ka, le_kb, le_f, gt_ka, gt_kb, gt_f, ge_ka, ge_kb, ge_f, mul_ka, mul_kb, div_ka, div_kb, divU_ka, divU_kb, mod_ka, mod_kb, pow_ka, pow_kb, shl_ka, shl_kb, shr_ka, shr_kb, eq_ka, eq_kb, ne_ka, ne_kb, eqD_ka, eqD_kb, neD_ka, neD_kb, isN_ka, isN_kb, notN_ka, notN_kb, ixS_ka, ixS_kb, ixT_ka, ixT_kb, ixL_ka, ixL_kb, inL_ka, inL_kb, notInL_ka, notInL_kb, cat_ka, cat_kb, rep_ka, rep_kb, eq_i, eq_s, ne_i, ne_s, isN_f, notN_f, ixL_f, ixT_f, ixS_f, len_f, lenS_f, abs_f, min2_f, max2_f, int_f, intB_f, gcd_f, listN_f, runX_eq, res_rt, res_ro, res_nx, res_xc, at0, at1, at2, rng_if, lcL_nil, mul_f, div_f, divU_f, mod_f, pow_f, shl_f, shr_f, cat_f, lcm_f, List.getElem?_cons_zero, List.getElem?_cons_succ, List.set_cons_zero, List.set_cons_succ, List.length_cons, List.length_nil, Nat.reduceAdd, Nat.reduceLT, Nat.reduceLeDiff, Nat.reduceEqDiff, if_true, if_false, Option.map_some, Option.map_none, Option.bind_some, Option.bind_none, reduceIte, decide_true, decide_false, R.start, avS, R.frz, at0, at1, at2, allXb, Sv.isX, List.all_cons, List.all_nil, Bool.and_true, Bool.true_and, Bool.and_false, Bool.false_and, List.flatten_cons, List.map_cons, List.map_nil, List.cons_append, List.nil_append, List.replicate_succ, List.replicate_zero, Bool.not_true, Bool.not_false, Nat.reduceMul, Nat.reduceSub, Nat.zero_add, and_self, and_true, true_and, and_false, false_and, *])
variable {K : PySem.W.Frag} {mg : Str → Option Value} (T : Tx K mg)
theorem num_tail {xs : List Int} {many : Nat} (hm : many ≤ 100000) : ∀ rest : List Int, 0 < rest.length → rest.length ≤ 64 → ∃ ns, Nums ns many ∧ (XS.seq (.setN 3 (.lend 2 (.lc (.list (.var 2)) (.name 7) .yes (.op O2.mod (.bi Bi.int (.cons false (.op O2.add (.op O2.mul (.var 7) (.int 48271)) (.int 11)) .nil)) (.int 2147483647)) [7])))
    (.seq (.setN 4 (.lst .nil))
    (.seq (.for_ (.range1 (.cons false (.var 1) .nil)) (.name 5) (xb_law_numbers_1 T))
    (.frz 4 (.ret (.var 4))))) : XS K).ev [.v (.s xs), .v (.d (.int many)), .ol (rest.map .int), .x, .x, .x, .x, .x] = .rt (.d (.list (ns.map .int))) := by
  intro rest h0 h1
  have hl2 : (rest.map PyData.int).length ≤ 100000 := by rw [List.length_map]; omega
  have hc2 : lcL (K := K) (.name 7) .yes (.op O2.mod (.bi Bi.int (.cons false (.op O2.add (.op O2.mul (.var 7) (.int 48271)) (.int 11)) .nil)) (.int 2147483647)) [.v (.s xs), .v (.d (.int many)), .bl (rest.map .int), .x, .x, .x, .x, .x] (rest.map .int) = some ((rest.map fun x => (x * 48271 + 11) % 2147483647).map .int) := by
    rw [List.map_map]
    refine lcL_map fun x _ => ?_
    rw [lcOne_eq]
    clear hl2 h0 h1 hm
    walk_at "ev"
    rfl
  obtain ⟨y, hy, hl⟩ := num_loop T (xs := xs) (many := many) (L := rest.length) h0 hm (y0 := (rest, rest.map fun x => (x * 48271 + 11) % 2147483647, [], .x, .x)) ⟨rfl, by show (rest.map _).length = _; rw [List.length_map], ⟨rfl, fun _ z => nomatch z⟩⟩
  have hg : ((XG.name 7 : XG K).T.all fun i => decide (i ∈ [7])) = true := rfl
  refine ⟨y.2.2.1, hy.n, ?_⟩
  refine run_nx (st1 := [.v (.s xs), .v (.d (.int many)), .ol (rest.map .int), .ol ((rest.map fun x => (x * 48271 + 11) % 2147483647).map .int), .x, .x, .x, .x]) ?_ ?_
  · clear h0 h1 hm hl hy
    walk_at "evh"
  refine run_nx (st1 := [.v (.s xs), .v (.d (.int many)), .ol (rest.map .int), .ol ((rest.map fun x => (x * 48271 + 11) % 2147483647).map .int), .ol [], .x, .x, .x]) (by walk_at "ev") ?_
  refine run_nx (for_nx (ds := irange 0 many) ?_ hl) ?_
  · have hr : (many : Int).natAbs < 4611686018427387904 := by omega
    clear hl2 h0 h1 hm hl hy hc2
    walk_at "ev"
    rfl
  · unfold numE
    clear hl2 h0 h1 hm hl hy hc2
    walk_at "ev"
theorem f_numbers {xs : List Int} (hx : xs.length ≤ 63) {many : Nat} (hm : many ≤ 100000) : ∃ ns, Nums ns many ∧ (fn_law_numbers T).f [.v (.s xs), iv many] = .ok (.d (.list (ns.map .int))) := by
  have hcut : Z.cutD (xs.map PyData.int) none (some 63) = xs.map .int := cutD_all (by decide) (by rw [List.length_map]; omega)
  have hl1 : (xs.map PyData.int).length ≤ 100000 := by rw [List.length_map]; omega
  have hab : ∀ n : Int, (if n < 0 then -n else n) = absI n := fun n => rfl
  have hc1 : lcL (K := K) (.name 7) .yes (.bi Bi.abs (.cons false (.var 7) .nil)) [.v (.s xs), .v (.d (.int many)), .x, .x, .x, .x, .x, .x] (xs.map .int) = some ((xs.map absI).map .int) := by
    rw [List.map_map]
    refine lcL_map fun x _ => ?_
    rw [lcOne_eq]
    clear hcut hl1
    walk_at "ev"
    rfl
  have hcat : ((xs.map absI).map PyData.int).length + [PyData.int 0].length ≤ 1000000 := by simp; omega
  have fin := num_tail (K := K) T (xs := xs) (many := many) hm
  rw [fnf_law_numbers]
  have hg : ((XG.name 7 : XG K).T.all fun i => decide (i ∈ [7])) = true := rfl
  have s1 : (XS.setN 2 (.op O2N.cat (XN.lc (.list (XN.slS (.var 0) .none (.some (.int 63))).e) (.name 7) .yes (.bi Bi.abs (.cons false (.var 7) .nil)) [7]).e (XN.lst (.cons false (.int 0) .nil)).e) : XS K).ev (R.start [.v (.s xs), iv many] 6) = .nx [.v (.s xs), .v (.d (.int many)), .ol ((xs.map absI).map .int ++ [.int 0]), .x, .x, .x, .x, .x] := by
    clear fin hm hx hab
    walk_at "evh"
  by_cases h : xs = []
  · obtain ⟨ns, hn, hf⟩ := fin [0] (by decide) (by decide)
    refine ⟨ns, hn, ?_⟩
    refine runX_of ?_
    unfold xs_law_numbers
    have es : ((xs.map absI).map PyData.int ++ [.int 0]) = ([0] : List Int).map PyData.int := by rw [h]; rfl
    rw [es] at s1
    refine run_nx s1 (run_nx (ite_f ?_ rfl) hf)
    have hc : decide ((0 : Int) < (xs.length : Nat)) = false := decide_eq_false (by rw [h]; decide)
    clear s1 hf fin hc1 hcat hcut hl1 hm hx hab hn es h
    walk_at "evh"
  · obtain ⟨ns, hn, hf⟩ := fin (xs.map absI) (by rw [List.length_map]; exact List.length_pos_iff.mpr h) (by rw [List.length_map]; omega)
    refine ⟨ns, hn, ?_⟩
    refine runX_of ?_
    unfold xs_law_numbers
    refine run_nx s1 (run_nx ?_ hf)
    have hc : decide ((0 : Int) < (xs.length : Nat)) = true := decide_eq_true (by have := List.length_pos_iff.mpr h; omega)
    have hcut2 : Z.cutD ((xs.map absI).map PyData.int ++ [.int 0]) none (some (-1)) = (xs.map absI).map .int := cutD_init
    clear s1 hf fin hc1 hcat hcut hl1 hm hx hab hn h
    walk_at "evh"
end Q

set_option Elab.async false
set_option linter.all false
set_option maxRecDepth 100000
set_option maxHeartbeats 4000000
namespace Q
open PySem PySem.Spec PyProof.Rows L2 Z R QF
local macro_rules | `(tactic| walk_at "ds") => `(tactic| first | assumption | decide | omega | exact ⟨by decide, by decide⟩ | exact ⟨by omega, by omega⟩ | exact div_lit ⟨by omega, by omega⟩ | exact mul_r (by omega) | exact mul_l (by omega))
local macro_rules | `(tactic| walk_at "ev") => `(tactic| simp (disch := walk_at "ds") only [bind_ok, bind_ex, bind_no, oc_k, oc_x, oc_n, of_some, of_none, okV_ok, okV_ex, okV_no, bOf_b, iOf_i, asL_l, asS_l, asS_s, lOf_l, var_ev, var_el, var_es, int_ev, bool_ev, non_ev, str_ev, av_f, av_t, op_ev, op_el, op_es, opN_ev, e_ev, e_el, e_es, neg_ev, bv_eq, iv_eq, andV_ev, orV_ev, notV_ev, ife_ev, ife_el, ife_es, chain_ev, tup_ev, dev_eq, avD_nil, avD_cons, lst_ev, anil_ev, acons_ev, bi_ev, biN_ev, call_ev, call_el, call_es, callN_ev, meth_ev, meth_el, meth_es, methN_ev, make_ev, fld_ev, fld_el, fld_es, test_ev, B_ev, and_ev, or_ev, not_ev, truthL_ev, ifeT_ev, yes_ev, onone_ev, osome_ev, sl_ev, slS_ev, lend_ev, blank_ev, ilist_ev, irng1_ev, irng2_ev, avI1_i, avI2_i, ienum_ev, izip_ev, gname_ev, gnil_ev, gcons_ev, gtup_ev, glst_ev, lc_ev, nx_ev, brk_ev, cnt_ev, seq_ev, set_ev, setN_ev, asg_ev, par_ev, aug_ev, seti_ev, app_ev, ite_ev, ret_ev, retN_ev, retO_ev, retV_ev, drop_ev, frz_ev, for_ev, lp_nil, raise_ev, try_ev, add_ka, add_kb, add_f, sub_ka, sub_kb, sub_f, band_ka, band_kb, band_f, lt_ka, lt_kb, lt_f, le_ka, le_kb, le_f, gt_ka, gt_kb, gt_f, ge_ka, ge_kb, ge_f, mul_ka, mul_kb, div_ka, div_kb, divU_ka, divU_kb, mod_ka, mod_kb, pow_ka, pow_kb, shl_ka, shl_kb, shr_ka, shr_kb, eq_ka, eq_kb, ne_ka, ne_kb, eqD_ka, eqD_kb, neD_ka, neD_kb, isN_ka, isN_kb, notN_ka, notN_kb, ixS_ka, ixS_kb, ixT_ka, ixT_kb, ixL_ka, ixL_kb, inL_ka, inL_kb, notInL_ka, notInL_kb, cat_ka, cat_kb, rep_ka, rep_kb, eq_i, eq_s, ne_i, ne_s, isN_f, notN_f, ixL_f, ixT_f, ixS_f, len_f, lenS_f, abs_f, min2_f, max2_f, int_f, intB_f, gcd_f, listN_f, runX_eq, res_rt, res_ro, res_nx, res_xc, at0, at1, at2, rng_if, lcL_nil, mul_f, div_f, divU_f, mod_f, pow_f, shl_f, shr_f, cat_f, lcm_f, List.getElem?_cons_zero, List.getElem?_cons_succ, List.set_cons_zero, List.set_cons_succ, List.length_cons, List.length_nil, Nat.reduceAdd, Nat.reduceLT, Nat.reduceLeDiff, Nat.reduceEqDiff, if_true, if_false, Option.map_some, Option.map_none, Option.bind_some, Option.bind_none, reduceIte, decide_true, decide_false, R.start, avS, R.frz, at0, at1, at2, allXb, Sv.isX, List.all_cons, List.all_nil, Bool.and_true, Bool.true_and, Bool.and_false, Bool.false_and, List.flatten_cons, List.map_cons, List.map_nil, List.cons_append, List.nil_append, List.replicate_succ, List.replicate_zero, Bool.not_true, Bool.not_false, Nat.reduceMul, Nat.reduceSub, Nat.zero_add, and_self, and_true, true_and, and_false, false_and])
local macro_rules | `(tactic| walk_at "evh") => `(tactic| simp (disch := walk_at "ds") only [bind_ok, bind_ex, bind_no, oc_k, oc_x, oc_n, of_some, of_none, okV_ok, okV_ex, okV_no, bOf_b, iOf_i, asL_l, asS_l, asS_s, lOf_l, var_ev, var_el, var_es, int_ev, bool_ev, non_ev, str_ev, av_f, av_t, op_ev, op_el, op_es, opN_ev, e_ev, e_el, e_es, neg_ev, bv_eq, iv_eq, andV_ev, orV_ev, notV_ev, ife_ev, ife_el, ife_es, chain_ev, tup_ev, dev_eq, avD_nil, avD_cons, lst_ev, anil_ev, acons_ev, bi_ev, biN_ev, call_ev, call_el, call_es, callN_ev, meth_ev, meth_el, meth_es, methN_ev, make_ev, fld_ev, fld_el, fld_es, test_ev, B_ev, and_ev, or_ev, not_ev, truthL_ev, ifeT_ev, yes_ev, onone_ev, osome_ev, sl_ev, slS_ev, lend_ev, blank_ev, ilist_ev, irng1_ev, irng2_ev, avI1_i, avI2_i, ienum_ev, izip_ev, gname_ev, gnil_ev, gcons_ev, gtup_ev, glst_ev, lc_ev, nx_ev, brk_ev, cnt_ev, seq_ev, set_ev, setN_ev, asg_ev, par_ev, aug_ev, seti_ev, app_ev, ite_ev, ret_ev, retN_ev, retO_ev, retV_ev, drop_ev, frz_ev, for_ev, lp_nil, raise_ev, try_ev, add_ka, add_kb, add_f, sub_ka, sub_kb, sub_f, band_ka, band_kb, band_f, lt_ka, lt_kb, lt_f, le_ka, le_kb, le_f, gt_ka, gt_kb, gt_f, ge_ka, ge_kb, ge_f, mul_ka, mul_kb, div_ka, div_kb, divU_ka, divU_kb, mod_ka, mod_kb, pow_ka, pow_kb, shl_ka, shl_kb, shr_ka, shr_kb, eq_ka, eq_kb, ne_ka, ne_kb, eqD_ka, eqD_kb, neD_ka, neD_kb, isN_ka, isN_kb, notN_ka, notN_kb, ixS_ka, ixS_kb, ixT_ka, ixT_kb, ixL_ka, ixL_kb, inL_ka, inL_kb, notInL_ka, notInL_kb, cat_ka, cat_kb, rep_ka, rep_kb, eq_i, eq_s, ne_i, ne_s, isN_f, notN_f, ixL_f, ixT_f, ixS_f, len_f, lenS_f, abs_f, min2_f, max2_f, int_f, intB_f, gcd_f, listN_f, runX_eq, res_rt, res_ro, res_nx, res_xc, at0, at1, at2, rng_if, lcL_nil, mul_f, div_f, divU_f, mod_f, pow_f, shl_f, shr_f, cat_f, lcm_f, List.getElem?_cons_zero, List.getElem?_cons_succ, List.set_cons_zero, List.set_cons_succ, List.length_cons, List.length_nil, Nat.reduceAdd, Nat.reduceLT, Nat.reduceLeDiff, Nat.reduceEqDiff, if_true, if_false, Option.map_some, Option.map_none, Option.bind_some, Option.bind_none, reduceIte, decide_true, decide_false, R.start, avS, R.frz, at0, at1, at2, allXb, Sv.isX, List.all_cons, List.all_nil, Bool.and_true, Bool.true_and, Bool.and_false, Bool.false_and, List.flatten_cons, List.map_cons, List.map_nil, List.cons_append, List.nil_append, List.replicate_succ, List.replicate_zero, Bool.not_true, Bool.not_false, Nat.reduceMul, Nat.reduceSub, Nat.zero_add, and_self, and_true, true_and, and_false, false_and, *])
variable {K : PySem.W.Frag} {mg : Str → Option Value} (T : Tx K mg)
theorem xh_z (n : Int) {a b c x : Sv} : (xh_law_refused T).ev T.c_ZeroDivisor n [a, b, c, x] = .rt (.d (.tuple [.bool true, .int n])) := by
  have hk : T.c_ZeroDivisor ∈ T.kn := by unfold Tx.kn; simp
  have hb := T.is_ZeroDivisor_ZeroDivisor
  show mute ((xu_law_refused T 0 (.ref T.c_ZeroDivisor) (some 0)).ev ([a, b, c, x].set 3 (.er 0 0 n))) = _
  unfold xu_law_refused
  simp [XS.ret, XE.tup, XE.of, XA.dev, XA.cons, XA.nil, XE.av, XE.isX, XE.errAt, hk, hb, Rs.bind, Rs.oc, Rs.of, mute, avD]
theorem f_refused0 (p : Int) : (fn_law_refused T).f [iv 0, iv p, iv 0] = .ok (.d (.tuple [.bool true, .int p])) := by
  have h1 := f_fraction0 T p
  have hm := fnm_fraction T
  have he := T.em_ZeroDivisor
  have hx := xh_z T p (a := .v (.d (.int 0))) (b := .v (.d (.int p))) (c := .v (.d (.int 0))) (x := .x)
  have hd : decide ((0 : Int) = 0) = true := rfl
  rw [fnf_law_refused]
  refine runX_of ?_
  unfold xs_law_refused
  walk_at "evh"
  rfl
theorem f_refused1 {x y : Int × Int} {n a b : Nat} (s : Sz x y n a b) (hy : y.1 = 0) : (fn_law_refused T).f [iv 1, fv x, fv y] = .ok (.d (.tuple [.bool true, .int (x.1 * y.2)])) := by
  have h1 := f_over0 T s hy
  have hm := fnm_over T
  have he := T.em_ZeroDivisor
  have hx := xh_z T (x.1 * y.2) (a := .v (.d (.int 1))) (b := .v (.d (fd x))) (c := .v (.d (fd y))) (x := .x)
  have hd : decide ((1 : Int) = 0) = false := rfl
  rw [fnf_law_refused]
  refine runX_of ?_
  unfold xs_law_refused
  clear s hy
  walk_at "evh"
  rfl
theorem f_round {x : Int × Int} {n b : Nat} (hx : 0 < x.2) (h1 : x.1.natAbs < 2 ^ n) (h2 : x.2.natAbs < 2 ^ b) (hk : 1 ≤ n ∧ n ≤ 9000 ∧ 1 ≤ b ∧ b ≤ 9000) : (fn_law_round T).f [fv x] = .ok (.d (.bool true)) := by
  have hf := f_floor T hx h2 (by omega)
  have hc := f_ceiling T hx h2 (by omega)
  have hm1 := fnm_floor T
  have hm2 := fnm_ceiling T
  have bd : ∀ p : Int, p.natAbs < 2 ^ n → (p / x.2).natAbs < 2 ^ (n + 1) := by
    intro p hp
    have := Int.natAbs_ediv_le_natAbs p x.2
    rw [Nat.pow_succ]
    omega
  have e1 := bd x.1 h1
  have e2 := bd (-x.1) (by rw [Int.natAbs_neg]; exact h1)
  have pw : 1 ≤ 2 ^ n := Nat.one_le_two_pow
  have pw2 : (2 : Nat) ^ (n + 2) = 4 * 2 ^ n := by rw [Nat.pow_add]; omega
  have pw1 : (2 : Nat) ^ (n + 1) = 2 * 2 ^ n := by rw [Nat.pow_succ]; omega
  have m1 : CMulU (x.1 / x.2) x.2 := mulU e1 h2 (by omega)
  have m2 : CMulU (x.1 / x.2 + 1) x.2 := mulU (a := n + 2) (by omega) h2 (by omega)
  have m3 : CMulU (-(-x.1 / x.2) - 1) x.2 := mulU (a := n + 2) (by omega) h2 (by omega)
  have m4 : CMulU (-(-x.1 / x.2)) x.2 := mulU (a := n + 2) (by omega) h2 (by omega)
  have d1 := Int.mul_ediv_add_emod x.1 x.2
  have d2 := Int.mul_ediv_add_emod (-x.1) x.2
  have r1 := Int.emod_nonneg x.1 (show x.2 ≠ 0 by omega)
  have r2 := Int.emod_lt_of_pos x.1 hx
  have r3 := Int.emod_nonneg (-x.1) (show x.2 ≠ 0 by omega)
  have r4 := Int.emod_lt_of_pos (-x.1) hx
  have c1 : decide (x.1 / x.2 * x.2 ≤ x.1) = true := decide_eq_true (by rw [Int.mul_comm]; omega)
  have c2 : decide (x.1 < (x.1 / x.2 + 1) * x.2) = true := decide_eq_true (by rw [Int.add_mul, Int.mul_comm]; omega)
  have c3 : decide ((-(-x.1 / x.2) - 1) * x.2 < x.1) = true := decide_eq_true (by rw [Int.sub_mul, Int.neg_mul, Int.mul_comm]; omega)
  have c4 : decide (x.1 ≤ -(-x.1 / x.2) * x.2) = true := decide_eq_true (by rw [Int.neg_mul, Int.mul_comm]; omega)
  rw [fnf_law_round]
  refine runX_of ?_
  unfold xs_law_round
  clear d1 d2 r1 r2 r3 r4 pw pw1 pw2 e1 e2 bd h1 h2 hx hk
  walk_at "evh"
theorem f_pair {xs ns : List Int} {k : Nat} (hx : xs.length ≤ 63) (hn : Nums ns 60) (hk : k < 6) : ∃ t b : Int, t.natAbs < 2 ^ 301 ∧ b.natAbs < 2 ^ 251 ∧ (fn_law_pair T).f [.v (.s xs), nv ns, iv (0 + (k : Int))] = .ok (.d (fd (t, b))) := by
  obtain ⟨k', hk'⟩ : ∃ k', k' = 0 + (k : Int) := ⟨_, rfl⟩
  rw [← hk']
  obtain ⟨v1, -, a1, -⟩ := hn.at_ (i := 2 * k') (by omega) (by omega)
  obtain ⟨v2, -, a2, -⟩ := hn.at_ (i := 2 * k' + 1) (by omega) (by omega)
  obtain ⟨v3, -, a3, -⟩ := hn.at_ (i := 20 + k') (by omega) (by omega)
  obtain ⟨v4, -, a4, b4, c4⟩ := hn.at_ (i := 30 + k') (by omega) (by omega)
  obtain ⟨v5, -, a5, b5, c5⟩ := hn.at_ (i := 31 + k') (by omega) (by omega)
  obtain ⟨v6, -, a6, -⟩ := hn.at_ (i := k') (by omega) (by omega)
  have s1 : ∀ {o : Oc} {t : XS K}, t.ev [.v (.s xs), .v (.d (.list (ns.map .int))), .v (.d (.int k')), .v (.d (.int (v1 % 41 - 20))), .v (.d (.int (v2 % 25 - 12)))] = o → (XS.seq (.set 3 (.op O2.sub (.op O2.mod (.bi Bi.int (.cons false (.op O2.ixL (.var 1) (.op O2.mul (.int 2) (.var 2))) .nil)) (.int 41)) (.int 20)))
    (.seq (.set 4 (.op O2.sub (.op O2.mod (.bi Bi.int (.cons false (.op O2.ixL (.var 1) (.op O2.add (.op O2.mul (.int 2) (.var 2)) (.int 1))) .nil)) (.int 25)) (.int 12))) t)).ev [.v (.s xs), .v (.d (.list (ns.map .int))), .v (.d (.int k')), .x, .x] = o := by
    intro o t h
    refine run_nx (st1 := [.v (.s xs), .v (.d (.list (ns.map .int))), .v (.d (.int k')), .v (.d (.int (v1 % 41 - 20))), .x]) ?_ (run_nx ?_ h)
    · clear h a2 a3 a4 a5 a6 b4 b5 c4 c5 hx hk hk' hn; walk_at "evh"
    · clear h a1 a3 a4 a5 a6 b4 b5 c4 c5 hx hk hk' hn; walk_at "evh"
  by_cases c : v3 % 4 = 0 ∧ 0 < xs.length
  · have hpos : (0 : Int) < ((xs.length : Nat) : Int) := by omega
    have i4 := Int.emod_nonneg v4 (show ((xs.length : Nat) : Int) ≠ 0 by omega)
    have j4 := Int.emod_lt_of_pos v4 hpos
    have i5 := Int.emod_nonneg v5 (show ((xs.length : Nat) : Int) ≠ 0 by omega)
    have j5 := Int.emod_lt_of_pos v5 hpos
    obtain ⟨s4, h4⟩ : ∃ s, xs[(v4 % ((xs.length : Nat) : Int)).toNat]? = some s := ⟨_, List.getElem?_eq_getElem (by omega)⟩
    obtain ⟨s5, h5⟩ : ∃ s, xs[(v5 % ((xs.length : Nat) : Int)).toNat]? = some s := ⟨_, List.getElem?_eq_getElem (by omega)⟩
    have p300 : (0 : Int) < 1 * 2 ^ (300 : Int).toNat := by decide
    have p250 : (0 : Int) < 1 * 2 ^ (250 : Int).toNat := by decide
    have q4 := Int.emod_nonneg s4 (show (1 * 2 ^ (300 : Int).toNat : Int) ≠ 0 by omega)
    have r4 := Int.emod_lt_of_pos s4 p300
    have q5 := Int.emod_nonneg s5 (show (1 * 2 ^ (250 : Int).toNat : Int) ≠ 0 by omega)
    have r5 := Int.emod_lt_of_pos s5 p250
    refine ⟨s4 % (1 * 2 ^ (300 : Int).toNat) - v6 % 3, s5 % (1 * 2 ^ (250 : Int).toNat) - 5, ?_, ?_, ?_⟩
    · have : (1 * 2 ^ (300 : Int).toNat : Int) < 2 ^ 301 := by decide
      have e : ((2 ^ 301 : Nat) : Int) = (2 : Int) ^ 301 := by decide
      have := Int.emod_nonneg v6 (show (3 : Int) ≠ 0 by decide)
      have := Int.emod_lt_of_pos v6 (show (0 : Int) < 3 by decide)
      have : (3 : Int) < 2 ^ 301 := by decide
      omega
    · have : (1 * 2 ^ (250 : Int).toNat : Int) < 2 ^ 251 := by decide
      have e : ((2 ^ 251 : Nat) : Int) = (2 : Int) ^ 251 := by decide
      have : (5 : Int) < 2 ^ 251 := by decide
      omega
    · rw [fnf_law_pair]
      refine runX_of ?_
      unfold xs_law_pair
      refine s1 ?_
      have d1 : decide (v3 % 4 = 0) = true := decide_eq_true c.1
      have d2 : decide ((0 : Int) < ((xs.length : Nat) : Int)) = true := decide_eq_true hpos
      refine run_nx (st1 := [.v (.s xs), .v (.d (.list (ns.map .int))), .v (.d (.int k')), .v (.d (.int (s4 % (1 * 2 ^ (300 : Int).toNat) - v6 % 3))), .v (.d (.int (s5 % (1 * 2 ^ (250 : Int).toNat) - 5)))]) (ite_t ?_ (run_nx (st1 := [.v (.s xs), .v (.d (.list (ns.map .int))), .v (.d (.int k')), .v (.d (.int (s4 % (1 * 2 ^ (300 : Int).toNat) - v6 % 3))), .v (.d (.int (v2 % 25 - 12)))]) ?_ ?_)) ?_
      · clear s1 a1 a2 a4 a5 a6 b4 b5 c4 c5 hx hk hk' hn q4 q5 r4 r5 i4 i5 j4 j5 c hpos; walk_at "evh"
      · have t1 : CPow 1 300 := by decide
        have e4 : (if (0 : Int) ≤ v4 % ((xs.length : Nat) : Int) then Option.map (fun n => Vl.d (.int n)) xs[(v4 % ((xs.length : Nat) : Int)).toNat]? else none) = some (.d (.int s4)) := by rw [if_pos i4, h4]; rfl
        clear s1 a1 a2 a3 a5 b4 b5 c4 c5 hx hk hk' hn q4 q5 r4 r5 i4 i5 j4 j5 c d1 d2 h4 h5
        walk_at "evh"
      · have t1 : CPow 1 250 := by decide
        have e5 : (if (0 : Int) ≤ v5 % ((xs.length : Nat) : Int) then Option.map (fun n => Vl.d (.int n)) xs[(v5 % ((xs.length : Nat) : Int)).toNat]? else none) = some (.d (.int s5)) := by rw [if_pos i5, h5]; rfl
        clear s1 a1 a2 a3 a4 a6 b4 b5 c4 c5 hx hk hk' hn q4 q5 r4 r5 i4 i5 j4 j5 c d1 d2 h4 h5
        walk_at "evh"
      · clear s1 a1 a2 a3 a4 a5 a6 b4 b5 c4 c5 hx hk hk' hn q4 q5 r4 r5 i4 i5 j4 j5 c d1 d2 h4 h5 p300 p250 hpos
        walk_at "ev"
  · refine ⟨v1 % 41 - 20, v2 % 25 - 12, ?_, ?_, ?_⟩
    · have : (100 : Nat) < 2 ^ 301 := by decide
      omega
    · have : (100 : Nat) < 2 ^ 251 := by decide
      omega
    · rw [fnf_law_pair]
      refine runX_of ?_
      unfold xs_law_pair
      refine s1 ?_
      refine run_nx (ite_f ?_ rfl) ?_
      · by_cases c1 : v3 % 4 = 0
        · have d1 : decide (v3 % 4 = 0) = true := decide_eq_true c1
          have d2 : decide ((0 : Int) < ((xs.length : Nat) : Int)) = false := decide_eq_false (by omega)
          clear s1 a1 a2 a4 a5 a6 b4 b5 c4 c5 hx hk hk' hn c; walk_at "evh"
        · have d1 : decide (v3 % 4 = 0) = false := decide_eq_false c1
          clear s1 a1 a2 a4 a5 a6 b4 b5 c4 c5 hx hk hk' hn c; walk_at "evh"
      · clear s1 a1 a2 a3 a4 a5 a6 b4 b5 c4 c5 hx hk hk' hn c
        walk_at "ev"
end Q

set_option Elab.async false
set_option linter.all false
set_option maxRecDepth 100000
set_option maxHeartbeats 4000000
namespace Q
open PySem PySem.Spec PyProof.Rows L2 Z R QF
local macro_rules | `(tactic| walk_at "ds") => `(tactic| first | assumption | decide | omega | exact ⟨by decide, by decide⟩ | exact ⟨by omega, by omega⟩ | exact div_lit ⟨by omega, by omega⟩ | exact mul_r (by omega) | exact mul_l (by omega))
local macro_rules | `(tactic| walk_at "ev") => `(tactic| simp (disch := walk_at "ds") only [bind_ok, bind_ex, bind_no, oc_k, oc_x, oc_n, of_some, of_none, okV_ok, okV_ex, okV_no, bOf_b, iOf_i, asL_l, asS_l, asS_s, lOf_l, var_ev, var_el, var_es, int_ev, bool_ev, non_ev, str_ev, av_f, av_t, op_ev, op_el, op_es, opN_ev, e_ev, e_el, e_es, neg_ev, bv_eq, iv_eq, andV_ev, orV_ev, notV_ev, ife_ev, ife_el, ife_es, chain_ev, tup_ev, dev_eq, avD_nil, avD_cons, lst_ev, anil_ev, acons_ev, bi_ev, biN_ev, call_ev, call_el, call_es, callN_ev, meth_ev, meth_el, meth_es, methN_ev, make_ev, fld_ev, fld_el, fld_es, test_ev, B_ev, and_ev, or_ev, not_ev, truthL_ev, ifeT_ev, yes_ev, onone_ev, osome_ev, sl_ev, slS_ev, lend_ev, blank_ev, ilist_ev, irng1_ev, irng2_ev, avI1_i, avI2_i, ienum_ev, izip_ev, gname_ev, gnil_ev, gcons_ev, gtup_ev, glst_ev, lc_ev, nx_ev, brk_ev, cnt_ev, seq_ev, set_ev, setN_ev, asg_ev, par_ev, aug_ev, seti_ev, app_ev, ite_ev, ret_ev, retN_ev, retO_ev, retV_ev, drop_ev, frz_ev, for_ev, lp_nil, raise_ev, try_ev, add_ka, add_kb, add_f, sub_ka, sub_kb, sub_f, band_ka, band_kb, band_f, lt_ka, lt_kb, lt_f, le_ka, le_kb, le_f, gt_ka, gt_kb, gt_f, ge_ka, ge_kb, ge_f, mul_ka, mul_kb, div_ka, div_kb, divU_ka, divU_kb, mod_ka, mod_kb, pow_ka, pow_kb, shl_ka, shl_kb, shr_ka, shr_kb, eq_ka, eq_kb, ne_ka, ne_kb, eqD_ka, eqD_kb, neD_ka, neD_kb, isN_ka, isN_kb, notN_ka, notN_kb, ixS_ka, ixS_kb, ixT_ka, ixT_kb, ixL_ka, ixL_kb, inL_ka, inL_kb, notInL_ka, notInL_kb, cat_ka, cat_kb, rep_ka, rep_kb, eq_i, eq_s, ne_i, ne_s, isN_f, notN_f, ixL_f, ixT_f, ixS_f, len_f, lenS_f, abs_f, min2_f, max2_f, int_f, intB_f, gcd_f, listN_f, runX_eq, res_rt, res_ro, res_nx, res_xc, at0, at1, at2, rng_if, lcL_nil, mul_f, div_f, divU_f, mod_f, pow_f, shl_f, shr_f, cat_f, lcm_f, List.getElem?_cons_zero, List.getElem?_cons_succ, List.set_cons_zero, List.set_cons_succ, List.length_cons, List.length_nil, Nat.reduceAdd, Nat.reduceLT, Nat.reduceLeDiff, Nat.reduceEqDiff, if_true, if_false, Option.map_some, Option.map_none, Option.bind_some, Option.bind_none, reduceIte, decide_true, decide_false, R.start, avS, R.frz, at0, at1, at2, allXb, Sv.isX, List.all_cons, List.all_nil, Bool.and_true, Bool.true_and, Bool.and_false, Bool.false_and, List.flatten_cons, List.map_cons, List.map_nil, List.cons_append, List.nil_append, List.replicate_succ, List.replicate_zero, Bool.not_true, Bool.not_false, Nat.reduceMul, Nat.reduceSub, Nat.zero_add, and_self, and_true, true_and, and_false, false_and])
local macro_rules | `(tactic| walk_at "evh") => `(tactic| simp (disch := walk_at "ds") only [bind_ok, bind_ex, bind_no, oc_k, oc_x, oc_n, of_some, of_none, okV_ok, okV_ex, okV_no, bOf_b, iOf_i, asL_l, asS_l, asS_s, lOf_l, var_ev, var_el, var_es, int_ev, bool_ev, non_ev, str_ev, av_f, av_t, op_ev, op_el, op_es, opN_ev, e_ev, e_el, e_es, neg_ev, bv_eq, iv_eq, andV_ev, orV_ev, notV_ev, ife_ev, ife_el, ife_es, chain_ev, tup_ev, dev_eq, avD_nil, avD_cons, lst_ev, anil_ev, acons_ev, bi_ev, biN_ev, call_ev, call_el, call_es, callN_ev, meth_ev, meth_el, meth_es, methN_ev, make_ev, fld_ev, fld_el, fld_es, test_ev, B_ev, and_ev, or_ev, not_ev, truthL_ev, ifeT_ev, yes_ev, onone_ev, osome_ev, sl_ev, slS_ev, lend_ev, blank_ev, ilist_ev, irng1_ev, irng2_ev, avI1_i, avI2_i, ienum_ev, izip_ev, gname_ev, gnil_ev, gcons_ev, gtup_ev, glst_ev, lc_ev, nx_ev, brk_ev, cnt_ev, seq_ev, set_ev, setN_ev, asg_ev, par_ev, aug_ev, seti_ev, app_ev, ite_ev, ret_ev, retN_ev, retO_ev, retV_ev, drop_ev, frz_ev, for_ev, lp_nil, raise_ev, try_ev, add_ka, add_kb, add_f, sub_ka, sub_kb, sub_f, band_ka, band_kb, band_f, lt_ka, lt_kb, lt_f, le_ka, le_kb, le_f, gt_ka, gt_kb, gt_f, ge_ka, ge_kb, ge_f, mul_ka, mul_kb, div_ka, div_kb, divU_ka, divU_kb, mod_ka, mod_kb, pow_ka, pow_kb, shl_ka, shl_kb, shr_ka, shr_kb, eq_ka, eq_kb, ne_ka, ne_kb, eqD_ka, eqD_kb, neD_ka, neD_kb, isN_ka, isN_kb, notN_ka, notN_kb, ixS_ka, ixS_kb, ixT_ka, ixT_kb, ixL_ka, ixL_kb, inL_ka, inL_kb, notInL_ka, notInL_kb, cat_ka, cat_kb, rep_ka, rep_kb, eq_i, eq_s, ne_i, ne_s, isN_f, notN_f, ixL_f, ixT_f, ixS_f, len_f, lenS_f, abs_f, min2_f, max2_f, int_f, intB_f, gcd_f, listN_f, runX_eq, res_rt, res_ro, res_nx, res_xc, at0, at1, at2, rng_if, lcL_nil, mul_f, div_f, divU_f, mod_f, pow_f, shl_f, shr_f, cat_f, lcm_f, List.getElem?_cons_zero, List.getElem?_cons_succ, List.set_cons_zero, List.set_cons_succ, List.length_cons, List.length_nil, Nat.reduceAdd, Nat.reduceLT, Nat.reduceLeDiff, Nat.reduceEqDiff, if_true, if_false, Option.map_some, Option.map_none, Option.bind_some, Option.bind_none, reduceIte, decide_true, decide_false, R.start, avS, R.frz, at0, at1, at2, allXb, Sv.isX, List.all_cons, List.all_nil, Bool.and_true, Bool.true_and, Bool.and_false, Bool.false_and, List.flatten_cons, List.map_cons, List.map_nil, List.cons_append, List.nil_append, List.replicate_succ, List.replicate_zero, Bool.not_true, Bool.not_false, Nat.reduceMul, Nat.reduceSub, Nat.zero_add, and_self, and_true, true_and, and_false, false_and, *])
variable {K : PySem.W.Frag} {mg : Str → Option Value} (T : Tx K mg)
/-- a fraction of the law -/
structure Gd (x : Int × Int) : Prop where
  is : IsF x
  n : x.1.natAbs < 2 ^ 301
  d : x.2.natAbs < 2 ^ 251
structure MadeP (c : Nat) (fs : List (Int × Int)) : Prop where
  len : fs.length = c
  gd : ∀ f ∈ fs, Gd f
def E1 (xs ns : List Int) (y : List (Int × Int) × Sv × Sv × Sv × Sv) : List Sv := [.v (.s xs), .v (.d (.list (ns.map .int))), .ol (y.1.map fd), y.2.1, y.2.2.1, y.2.2.2.1, y.2.2.2.2, .x, .x]
theorem pow_le {a b : Nat} (h : a ≤ b) : 2 ^ a ≤ 2 ^ b := Nat.pow_le_pow_right (by decide) h
theorem nevb (x : Bool) : (O2.neD : O2 K).f (.v (.d (.bool x))) (.v (.d (.bool x))) = some (.d (.bool false)) := by
  rw [neD_f ⟨sh_b x, sh_b x⟩, eqv_b]
  simp
theorem sh_tp (p : Int) : SeqAt.shaped (.tuple [.bool true, .int p]) = true := Sh.shaped (k := 1) (sh_tup (sh_cons sh_bool (sh_cons sh_int sh_nil)))
theorem netp (p : Int) : (O2.neD : O2 K).f (.v (.d (.tuple [.bool true, .int p]))) (.v (.d (.tuple [.bool true, .int p]))) = some (.d (.bool false)) := by
  rw [neD_f ⟨sh_tp p, sh_tp p⟩, SeqAt.eqv_refl _ (Sh.lay (k := 1) (sh_tup (sh_cons sh_bool (sh_cons sh_int sh_nil))))]
  rfl
theorem nev_same (x : Int × Int) : (O2.neD : O2 K).f (fv x) (fv x) = some (.d (.bool false)) := by
  rw [nevfd]
  simp
/-- the first loop's turn, behind the pair -/
theorem turn1 {xs ns : List Int} {fs : List (Int × Int)} {z3 z6 : Sv} {t b : Int} (ht : t.natAbs < 2 ^ 301) (hb : b.natAbs < 2 ^ 251) (hl : (fs.map fd).length < 1000000) : ∃ x b', Gd x ∧ (XS.seq (.ite (.ife (.test (.op O2.ne (.var 5) (.int 0))) (.test (.op O2.neD (.call (fn_is_fraction T) (fno_is_fraction T) (.cons false (.tup (.cons false (.var 4) (.cons false (.var 5) .nil))) .nil)) (.call (fn_law_good T) (fno_law_good T) (.cons false (.tup (.cons false (.var 4) (.cons false (.var 5) .nil))) .nil)))) (.B (.call (fn_is_fraction T) (fno_is_fraction T) (.cons false (.tup (.cons false (.var 4) (.cons false (.var 5) .nil))) .nil))))
    (.ret (.bool false))
    XS.nx)
    (.seq (.ite (.test (.op O2.eq (.var 5) (.int 0)))
    (.seq (.ite (.test (.op O2.neD (.call (fn_law_refused T) (fno_law_refused T) (.cons false (.int 0) (.cons false (.var 4) (.cons false (.var 5) .nil)))) (.tup (.cons false (.bool true) (.cons false (.var 4) .nil)))))
    (.ret (.bool false))
    XS.nx)
    (.set 5 (.int 1)))
    XS.nx)
    (.seq (.set 6 (.call (fn_fraction T) (fno_fraction T) (.cons false (.var 4) (.cons false (.var 5) .nil))))
    (.seq (.ite (.or (.test (.op O2.neD (.var 6) (.call (fn_law_lowest T) (fno_law_lowest T) (.cons false (.var 4) (.cons false (.var 5) .nil))))) (.or (.not (.B (.call (fn_is_fraction T) (fno_is_fraction T) (.cons false (.var 6) .nil)))) (.B (.call (fn_is_fraction T) (fno_is_fraction T) (.cons false (.tup (.cons false (.op O2.mul (.int 2) (.op O2.ixT (.var 6) (.int 0))) (.cons false (.op O2.mul (.int 2) (.op O2.ixT (.var 6) (.int 1))) .nil))) .nil)))))
    (.ret (.bool false))
    XS.nx)
    (.seq (.ite (.not (.B (.call (fn_law_round T) (fno_law_round T) (.cons false (.var 6) .nil))))
    (.ret (.bool false))
    XS.nx)
    (.app 2 (.var 6)))))) : XS K).ev [.v (.s xs), .v (.d (.list (ns.map .int))), .ol (fs.map fd), z3, .v (.d (.int t)), .v (.d (.int b)), z6, .x, .x] = .nx [.v (.s xs), .v (.d (.list (ns.map .int))), .ol (fs.map fd ++ [fd x]), z3, .v (.d (.int t)), .v (.d (.int b')), .v (.d (fd x)), .x, .x] := by
  have m1 := fnm_is_fraction T
  have m2 := fnm_law_good T
  have m3 := fnm_law_refused T
  have m4 := fnm_fraction T
  have m5 := fnm_law_lowest T
  have m6 := fnm_law_round T
  have q1 := f_is_fraction T (t, b)
  have tail : ∀ b' : Int, b' ≠ 0 → b'.natAbs < 2 ^ 251 → Gd (low t b') ∧ (XS.seq (.set 6 (.call (fn_fraction T) (fno_fraction T) (.cons false (.var 4) (.cons false (.var 5) .nil))))
    (.seq (.ite (.or (.test (.op O2.neD (.var 6) (.call (fn_law_lowest T) (fno_law_lowest T) (.cons false (.var 4) (.cons false (.var 5) .nil))))) (.or (.not (.B (.call (fn_is_fraction T) (fno_is_fraction T) (.cons false (.var 6) .nil)))) (.B (.call (fn_is_fraction T) (fno_is_fraction T) (.cons false (.tup (.cons false (.op O2.mul (.int 2) (.op O2.ixT (.var 6) (.int 0))) (.cons false (.op O2.mul (.int 2) (.op O2.ixT (.var 6) (.int 1))) .nil))) .nil)))))
    (.ret (.bool false))
    XS.nx)
    (.seq (.ite (.not (.B (.call (fn_law_round T) (fno_law_round T) (.cons false (.var 6) .nil))))
    (.ret (.bool false))
    XS.nx)
    (.app 2 (.var 6)))) : XS K).ev [.v (.s xs), .v (.d (.list (ns.map .int))), .ol (fs.map fd), z3, .v (.d (.int t)), .v (.d (.int b')), z6, .x, .x] = .nx [.v (.s xs), .v (.d (.list (ns.map .int))), .ol (fs.map fd ++ [fd (low t b')]), z3, .v (.d (.int t)), .v (.d (.int b')), .v (.d (fd (low t b'))), .x, .x] := by
    intro b' h0 hb'
    have is := low_is (p := t) h0
    have g : Gd (low t b') := ⟨is, Nat.lt_of_le_of_lt (low_bd1 h0) ht, Nat.lt_of_le_of_lt (low_bd2 h0) hb'⟩
    refine ⟨g, ?_⟩
    have a1 := f_fraction T (k := 251) (p := t) h0 (by decide) (by decide) hb'
    have a2 := f_lowest T (k := 251) (p := t) h0 (by decide) (by decide) hb'
    have a3 := nev_same (K := K) (low t b')
    have a4 := f_is_fraction T (low t b')
    have d1 : decide (1 ≤ (low t b').2) = true := decide_eq_true (by have := is.pos; omega)
    have d2 : decide (Nat.gcd (low t b').1.natAbs (low t b').2.natAbs = 1) = true := decide_eq_true is.cop
    rw [d1, d2] at a4
    have a5 := f_is_fraction T (2 * (low t b').1, 2 * (low t b').2)
    have d3 : decide (Nat.gcd (2 * (low t b').1).natAbs (2 * (low t b').2).natAbs = 1) = false := decide_eq_false (by
      rw [Int.natAbs_mul, Int.natAbs_mul, show ((2 : Int)).natAbs = 2 from rfl, Nat.gcd_mul_left, is.cop]
      decide)
    rw [d3, Bool.and_false] at a5
    have a6 := f_round T (x := low t b') is.pos g.n g.d (by decide)
    clear d1 d2 d3 is q1 ht hb hb' h0
    refine run_nx (st1 := [.v (.s xs), .v (.d (.list (ns.map .int))), .ol (fs.map fd), z3, .v (.d (.int t)), .v (.d (.int b')), .v (.d (fd (low t b'))), .x, .x]) ?_ (run_nx (ite_f ?_ rfl) (run_nx (ite_f ?_ rfl) ?_))
    · clear a2 a3 a4 a5 a6 g hl
      walk_at "evh"
    · clear a1 a6 g hl
      walk_at "evh"
    · clear a1 a2 a3 a4 a5 g hl
      walk_at "evh"
    · clear a1 a2 a3 a4 a5 a6 g
      walk_at "evh"
  by_cases h0 : b = 0
  · subst h0
    obtain ⟨g, h⟩ := tail 1 (by decide) (by decide)
    refine ⟨low t 1, 1, g, ?_⟩
    have e0 : (decide (1 ≤ (0 : Int)) && decide (Nat.gcd t.natAbs (0 : Int).natAbs = 1)) = false := rfl
    replace q1 : (fn_is_fraction T).f [fv (t, 0)] = .ok (.d (.bool false)) := by rw [q1, ← e0]
    have a1 := f_refused0 T t
    have a2 := netp (K := K) t
    have d0 : decide ((0 : Int) = 0) = true := rfl
    refine run_nx (ite_f ?_ rfl) (run_nx (st1 := [.v (.s xs), .v (.d (.list (ns.map .int))), .ol (fs.map fd), z3, .v (.d (.int t)), .v (.d (.int 1)), z6, .x, .x]) (ite_t ?_ (run_nx (ite_f ?_ rfl) ?_)) h)
    · clear h a1 a2 tail g e0 ht hb hl
      walk_at "evh"
    · walk_at "evh"
    · clear h q1 tail g e0 ht hb hl
      walk_at "evh"
    · walk_at "ev"
  · obtain ⟨g, h⟩ := tail b h0 hb
    refine ⟨low t b, b, g, ?_⟩
    have a1 := f_law_good T (x := (t, b)) (k := 251) h0 hb (by decide)
    have e : (decide (1 ≤ b) && decide (low t b = (t, b))) = (decide (1 ≤ b) && decide (Nat.gcd t.natAbs b.natAbs = 1)) := by
      by_cases h1 : 1 ≤ b
      · have : decide (low t b = (t, b)) = decide (Nat.gcd t.natAbs b.natAbs = 1) := by rw [Bool.eq_iff_iff, decide_eq_true_eq, decide_eq_true_eq]; exact low_eq_iff (by omega)
        rw [this]
      · rw [decide_eq_false h1, Bool.false_and, Bool.false_and]
    replace a1 : (fn_law_good T).f [fv (t, b)] = .ok (.d (.bool (decide (1 ≤ b) && decide (Nat.gcd t.natAbs b.natAbs = 1)))) := by rw [a1, ← e]
    replace q1 : (fn_is_fraction T).f [fv (t, b)] = .ok (.d (.bool (decide (1 ≤ b) && decide (Nat.gcd t.natAbs b.natAbs = 1)))) := q1
    generalize (decide (1 ≤ b) && decide (Nat.gcd t.natAbs b.natAbs = 1)) = B at a1 q1
    have a2 := nevb (K := K) B
    have d0 : decide (b = 0) = false := decide_eq_false h0
    refine run_nx (ite_f ?_ rfl) (run_nx (ite_f ?_ rfl) h)
    · clear h tail g e ht hb hl
      walk_at "evh"
    · clear h tail g e ht hb hl a1 a2 q1
      walk_at "evh"
theorem sz_gd {x y : Int × Int} (hx : Gd x) (hy : Gd y) : Sz x y 301 251 251 := ⟨hx.n, hy.n, hx.d, hy.d, by decide, by decide⟩
def E2 (xs ns : List Int) (fs : List (Int × Int)) (y : Sv × Sv × Sv × Sv × Sv) : List Sv := [.v (.s xs), .v (.d (.list (ns.map .int))), .ol (fs.map fd), y.1, y.2.1, y.2.2.1, y.2.2.2.1, y.2.2.2.2, .x]
theorem turn2 {xs ns : List Int} {fs : List (Int × Int)} {k : Nat} {z4 z5 z6 z7 : Sv} (hn : Nums ns 60) (hf : MadeP 6 fs) (hk : k < 6) : ∃ y, (xb_law_2 T).ev [.v (.s xs), .v (.d (.list (ns.map .int))), .ol (fs.map fd), .v (.d (.int (0 + (k : Int)))), z4, z5, z6, z7, .x] = .nx (E2 xs ns fs y) := by
  obtain ⟨k', hk'⟩ : ∃ k', k' = 0 + (k : Int) := ⟨_, rfl⟩
  rw [← hk']
  obtain ⟨v, -, av, bv, cv⟩ := hn.at_ (i := 40 + k') (by omega) (by omega)
  have i1 := Int.emod_nonneg v (show (6 : Int) ≠ 0 by decide)
  have i2 := Int.emod_lt_of_pos v (show (0 : Int) < 6 by decide)
  have hl := hf.len
  have hx1 : k'.toNat < fs.length := by omega
  have hy1 : (v % 6).toNat < fs.length := by omega
  have hx : atI (fs.map fd) k' = some (fd fs[k'.toNat]) := atI_in (by omega) (List.getElem?_eq_getElem hx1)
  have hy : atI (fs.map fd) (v % 6) = some (fd fs[(v % 6).toNat]) := atI_in i1 (List.getElem?_eq_getElem hy1)
  have gx := hf.gd _ (List.getElem_mem hx1)
  have gy := hf.gd _ (List.getElem_mem hy1)
  generalize fs[k'.toNat] = x at hx gx
  generalize fs[(v % 6).toNat] = y at hy gy
  have s := sz_gd gx gy
  have px := gx.is.pos
  have py := gy.is.pos
  have gy' : Gd (-y.1, y.2) := ⟨⟨py, by show Nat.gcd (-y.1).natAbs _ = 1; rw [Int.natAbs_neg]; exact gy.is.cop⟩, by show (-y.1).natAbs < _; rw [Int.natAbs_neg]; exact gy.n, gy.d⟩
  have s' := sz_gd gx gy'
  have p1 := f_plus T s (by omega) (by omega)
  have p2 := f_law_plus T s (by omega) (by omega)
  have p3 := f_minus T s (by omega) (by omega)
  have p4 := f_law_plus T s' (by omega) (by show y.2 ≠ 0; omega)
  have e4 : low (x.1 * (-y.1, y.2).2 + (-y.1, y.2).1 * x.2) (x.2 * (-y.1, y.2).2) = low (x.1 * y.2 - y.1 * x.2) (x.2 * y.2) := by
    show low (x.1 * y.2 + -y.1 * x.2) (x.2 * y.2) = _
    rw [Int.neg_mul, Int.sub_eq_add_neg]
  rw [e4] at p4
  have p5 := f_times T s (by omega) (by omega)
  have p6 := f_law_times T s (by omega) (by omega)
  have p7 := f_is_less T s
  have p8 := f_law_less T s
  have n1 := nev_same (K := K) (low (x.1 * y.2 + y.1 * x.2) (x.2 * y.2))
  have n2 := nev_same (K := K) (low (x.1 * y.2 - y.1 * x.2) (x.2 * y.2))
  have n3 := nev_same (K := K) (low (x.1 * y.1) (x.2 * y.2))
  have n4 := nevb (K := K) (decide (x.1 * y.2 < y.1 * x.2))
  have m1 := fnm_plus T
  have m2 := fnm_law_plus T
  have m3 := fnm_minus T
  have m4 := fnm_times T
  have m5 := fnm_law_times T
  have m6 := fnm_is_less T
  have m7 := fnm_law_less T
  have m8 := fnm_law_refused T
  have m9 := fnm_over T
  have m0 := fnm_law_lowest T
  refine ⟨(.v (.d (.int k')), z4, .v (.d (fd (-y.1, y.2))), .v (.d (fd x)), .v (.d (fd y))), ?_⟩
  unfold xb_law_2 E2
  refine run_nx (st1 := [.v (.s xs), .v (.d (.list (ns.map .int))), .ol (fs.map fd), .v (.d (.int k')), z4, z5, .v (.d (fd x)), .v (.d (fd y)), .x]) ?_ (run_nx (st1 := [.v (.s xs), .v (.d (.list (ns.map .int))), .ol (fs.map fd), .v (.d (.int k')), z4, .v (.d (fd (-y.1, y.2))), .v (.d (fd x)), .v (.d (fd y)), .x]) ?_ (run_nx (ite_f ?_ rfl) (run_nx (ite_f ?_ rfl) ?_)))
  · clear p1 p2 p3 p4 p5 p6 p7 p8 n1 n2 n3 n4 s s' gx gy gy' px py e4 hk' bv cv i1 i2 hl hx1 hy1 hn hf
    walk_at "evh"
  · walk_at "ev"
  · clear p5 p6 p7 p8 n3 n4 s s' gx gy gy' px py e4 hk' bv cv i1 i2 hl hx1 hy1 hn hf hx hy av
    walk_at "evh"
  · clear p1 p2 p3 p4 n1 n2 s s' gx gy gy' px py e4 hk' bv cv i1 i2 hl hx1 hy1 hn hf hx hy av
    walk_at "evh"
  · clear p1 p2 p3 p4 p5 p6 p7 p8 n1 n2 n3 n4
    have c1 := s.m12
    have c2 : CMulU x.2 y.1 := mulU s.x2 s.y1 (by decide)
    by_cases h0 : y.1 = 0
    · have q1 := f_refused1 T s h0
      have q2 := netp (K := K) (x.1 * y.2)
      have d1 : decide (y.1 = 0) = true := decide_eq_true h0
      refine ite_t ?_ (ite_f ?_ rfl)
      · clear q1 q2 s s' gx gy gy' px py e4 hk' bv cv i1 i2 hl hx1 hy1 hn hf hx hy av h0
        walk_at "evh"
      · clear s s' gx gy gy' px py e4 hk' bv cv i1 i2 hl hx1 hy1 hn hf hx hy av h0
        walk_at "evh"
    · have q1 := f_over T s (by omega) h0 (by decide)
      have q2 := f_lowest T (k := 552) (p := x.1 * y.2) (q := x.2 * y.1) (Int.mul_ne_zero (by omega) h0) (by decide) (by decide) (mulB s.x2 s.y1)
      have q3 := nev_same (K := K) (low (x.1 * y.2) (x.2 * y.1))
      have d1 : decide (y.1 = 0) = false := decide_eq_false h0
      refine ite_f ?_ (ite_f ?_ rfl)
      · clear q1 q2 q3 s s' gx gy gy' px py e4 hk' bv cv i1 i2 hl hx1 hy1 hn hf hx hy av h0
        walk_at "evh"
      · clear s s' gx gy gy' px py e4 hk' bv cv i1 i2 hl hx1 hy1 hn hf hx hy av h0
        walk_at "evh"
theorem sh_fds (fs : List (Int × Int)) : Sh 2 (.list (fs.map fd)) := sh_list (sh_map fun x _ => sh_tup (sh_cons sh_int (sh_cons sh_int sh_nil)))
theorem law_true : ∀ xs : List Int, xs.length ≤ 63 → runX (xs_law T) false 8 [.v (.s xs)] = .ok (.d (.bool true)) := by
  intro xs hx
  obtain ⟨ns, hn, h1⟩ := f_numbers T hx (many := 60) (by decide)
  have m1 := fnm_law_numbers T
  refine runX_of ?_
  unfold xs_law
  refine run_nx (st1 := [.v (.s xs), .v (.d (.list (ns.map .int))), .x, .x, .x, .x, .x, .x, .x]) ?_ (run_nx (st1 := E1 xs ns ([], .x, .x, .x, .x)) ?_ ?_)
  · replace h1 : (fn_law_numbers T).f [.v (.s xs), iv 60] = .ok (.d (.list (ns.map .int))) := h1
    clear hn hx
    walk_at "evh"
  · unfold E1
    walk_at "ev"
  obtain ⟨y, hy, hl⟩ := lp_ex (K := K) (g := .name 3) (s := xb_law_1 T) (en := fun k : Nat => PyData.int (0 + (k : Int))) (xs := List.range 6) (E1 xs ns) (fun pre y => MadeP pre.length y.1) (x0 := ([], .x, .x, .x, .x)) ⟨rfl, fun _ z => nomatch z⟩ (by
    rintro pre k post ⟨fs, z3, z4, z5, z6⟩ e hm
    have hm : MadeP pre.length fs := hm
    have hlen := le_len e
    rw [List.length_range] at hlen
    have hk : k < 6 := List.mem_range.mp (by rw [e]; simp)
    obtain ⟨t, b, ht, hb, hp⟩ := f_pair T (xs := xs) hx hn hk
    have hl1 : (fs.map fd).length < 1000000 := by rw [List.length_map, hm.len]; omega
    obtain ⟨x, b', g, h⟩ := turn1 T (xs := xs) (ns := ns) (fs := fs) (z3 := .v (.d (.int (0 + (k : Int))))) (z6 := z6) ht hb hl1
    have mp := fnm_law_pair T
    refine ⟨(fs ++ [x], .v (.d (.int (0 + (k : Int)))), .v (.d (.int t)), .v (.d (.int b')), .v (.d (fd x))), ⟨by rw [List.length_append, List.length_append, hm.len]; rfl, fun f hf => ?_⟩, _, by unfold E1; walk_at "ev"; rfl, .inl ?_⟩
    · rcases List.mem_append.mp hf with z | z
      · exact hm.gd f z
      · rw [List.mem_singleton.mp z]; exact g
    · unfold xb_law_1 E1
      rw [List.map_append]
      refine run_nx ?_ h
      unfold nv at hp
      clear h g ht hb hl1 hm hlen hk e hx hn h1
      walk_at "evh")
  obtain ⟨fs, z3, z4, z5, z6⟩ := y
  have hf : MadeP 6 fs := hy
  refine run_nx (for_nx (ds := irange 0 6) ?_ hl) ?_
  · unfold E1
    walk_at "ev"
    rfl
  obtain ⟨y, -, hl2⟩ := lp_ex (K := K) (g := .name 3) (s := xb_law_2 T) (en := fun k : Nat => PyData.int (0 + (k : Int))) (xs := List.range 6) (E2 xs ns fs) (fun pre y => True) (x0 := (z3, z4, z5, z6, .x)) trivial (by
    rintro pre k post ⟨z3, z4, z5, z6, z7⟩ e -
    have hk : k < 6 := List.mem_range.mp (by rw [e]; simp)
    obtain ⟨y, h⟩ := turn2 T (xs := xs) (z4 := z4) (z5 := z5) (z6 := z6) (z7 := z7) hn hf hk
    exact ⟨y, trivial, _, by unfold E2; walk_at "ev", .inl h⟩)
  refine run_nx (for_nx (ds := irange 0 6) ?_ hl2) ?_
  · unfold E1
    walk_at "ev"
    rfl
  obtain ⟨w3, w4, w5, w6, w7⟩ := y
  have F : Fs fs 301 251 := ⟨fun f h => (hf.gd f h).is, fun f h => (hf.gd f h).n, fun f h => (hf.gd f h).d, by decide, by rw [hf.len]; decide⟩
  have a1 := f_added T F
  have a2 := f_law_added T F
  have a3 := eqvfd (K := K) (x := low (numF fs (lcmF fs)).sum (lcmF fs)) (y := low (numF fs (lcmF fs)).sum (lcmF fs))
  rw [decide_eq_true rfl] at a3
  have a4 : (O2.eqD : O2 K).f (.v (.d (.list (fs.map fd)))) (.v (.d (.list (fs.map fd)))) = some (.d (.bool true)) := by
    rw [eqD_f ⟨(sh_fds fs).shaped, (sh_fds fs).shaped⟩, (sh_fds fs).refl]
  have a5 : (fn_added T).f [fvs []] = .ok (.d (fd (0, 1))) := by
    rw [f_added T (fs := []) (n := 1) (b := 1) ⟨(fun _ z => nomatch z), (fun _ z => nomatch z), (fun _ z => nomatch z), by decide, by decide⟩]
    rfl
  have a6 := eqvfd (K := K) (x := (0, 1)) (y := (0, 1))
  rw [decide_eq_true rfl] at a6
  have m2 := fnm_added T
  have m3 := fnm_law_added T
  unfold fvs at a1 a2 a5
  replace a5 : (fn_added T).f [.v (.d (.list []))] = .ok (.d (fd (0, 1))) := a5
  unfold E2
  clear hl hl2 hf hn h1 F hx m1 hy
  refine run_nx (st1 := [.v (.s xs), .v (.d (.list (ns.map .int))), .ol (fs.map fd), w3, w4, w5, w6, w7, .v (.d (.list (fs.map fd)))]) (by walk_at "ev") ?_
  walk_at "evh"
end Q

set_option Elab.async false
set_option linter.all false
set_option maxRecDepth 100000
set_option maxHeartbeats 4000000
namespace Q
open PySem PySem.Spec PyProof.Rows L2 Z R
def spLaw (K : PySem.W.Frag) : Sp := SpA (α := List Int) (fun xs => xs.length ≤ 63) (fun xs => [pu (scR K xs)]) (fun _ => .ok (dB true))
section
variable {P : Program} {w : World} {K : PySem.W.Frag} {mg : Str → Option Value} {base : Heap}
theorem ok_law (T : Tx K mg) : RunAt P w K mg base (L2.CX P w) 6 T.f_law T.fd_law ["script"] (spLaw K) := by
  refine fun_at T.F_law sc_law (SpA.len fun _ => rfl) (fun cdv s H vs Q E hr hgd h => ⟨_, (pss_cons (ps_set (i := 1) sc_law.nd rfl (by first | exact Or.inl rfl | exact Or.inr rfl) (pe_call (ok_law_numbers T) (hr.mono (by decide)) (by rfl) T.g_law_numbers T.F_law_numbers.kp T.b_law_numbers .nil (passes_call (takes_of rfl rfl rfl rfl) fun _ _ _ _ z => z) (pa_cons (pv 0) (pa_cons pe_int pa_nil))))
      (pss_cons (ps_set (i := 2) sc_law.nd rfl (by first | exact Or.inl rfl | exact Or.inr rfl) (pe_lst pa_nil))
      (pss_cons (ps_for (passes_of rfl) rfl (pi_range1 (by rfl) T.z_range (pa_cons pe_int pa_nil)) (pg_name (i := 3) sc_law.nd rfl (by first | exact Or.inl rfl | exact Or.inr rfl))
        (pss_cons (ps_asg (pe_call (ok_law_pair T) (hr.mono (by decide)) (by rfl) T.g_law_pair T.F_law_pair.kp T.b_law_pair .nil (passes_call (takes_of rfl rfl rfl rfl) fun _ _ _ _ z => z) (pa_cons (pv 0) (pa_cons (pv 1) (pa_cons (pv 3) pa_nil)))) (kpg_tup K (n := 2) rfl (pgs_cons (pg_name (i := 4) sc_law.nd rfl (by first | exact Or.inl rfl | exact Or.inr rfl)) (pgs_cons (pg_name (i := 5) sc_law.nd rfl (by first | exact Or.inl rfl | exact Or.inr rfl)) pgs_nil))))
      (pss_cons (ps_if (pt_ifExpT (pt_cmpR op_ne (pv 5) pe_int (nomark _)) (pt_cmpR (kop_neD K (Z.room64 hr)) (pe_call (ok_is_fraction T) (hr.mono (by decide)) (by rfl) T.g_is_fraction T.F_is_fraction.kp T.b_is_fraction .nil (passes_call (takes_of rfl rfl rfl rfl) fun _ _ _ _ z => z) (pa_cons (pe_tup (pa_cons (pv 4) (pa_cons (pv 5) pa_nil))) pa_nil)) (pe_call (ok_law_good T) (hr.mono (by decide)) (by rfl) T.g_law_good T.F_law_good.kp T.b_law_good .nil (passes_call (takes_of rfl rfl rfl rfl) fun _ _ _ _ z => z) (pa_cons (pe_tup (pa_cons (pv 4) (pa_cons (pv 5) pa_nil))) pa_nil)) (nomark _)) (pt_val (pe_call (ok_is_fraction T) (hr.mono (by decide)) (by rfl) T.g_is_fraction T.F_is_fraction.kp T.b_is_fraction .nil (passes_call (takes_of rfl rfl rfl rfl) fun _ _ _ _ z => z) (pa_cons (pe_tup (pa_cons (pv 4) (pa_cons (pv 5) pa_nil))) pa_nil))))
        (pss_one (ps_ret pe_bl))
        pss_nil)
      (pss_cons (ps_if (pt_cmpR op_eq (pv 5) pe_int (nomark _))
        (pss_cons (ps_if (pt_cmpR (kop_neD K (Z.room64 hr)) (pe_call (ok_law_refused T) (hr.mono (by decide)) (by rfl) T.g_law_refused T.F_law_refused.kp T.b_law_refused .nil (passes_call (takes_of rfl rfl rfl rfl) fun _ _ _ _ z => z) (pa_cons pe_int (pa_cons (pv 4) (pa_cons (pv 5) pa_nil)))) (pe_tup (pa_cons pe_bl (pa_cons (pv 4) pa_nil))) (nomark _))
        (pss_one (ps_ret pe_bl))
        pss_nil)
      (pss_one (ps_set (i := 5) sc_law.nd rfl (by first | exact Or.inl rfl | exact Or.inr rfl) pe_int)))
        pss_nil)
      (pss_cons (ps_set (i := 6) sc_law.nd rfl (by first | exact Or.inl rfl | exact Or.inr rfl) (pe_call (ok_fraction T) (hr.mono (by decide)) (by rfl) T.g_fraction T.F_fraction.kp T.b_fraction .nil (passes_call (takes_of rfl rfl rfl rfl) fun _ _ _ _ z => z) (pa_cons (pv 4) (pa_cons (pv 5) pa_nil))))
      (pss_cons (ps_if (PW.pt (pw_or (pt_cmpR (kop_neD K (Z.room64 hr)) (pv 6) (pe_call (ok_law_lowest T) (hr.mono (by decide)) (by rfl) T.g_law_lowest T.F_law_lowest.kp T.b_law_lowest .nil (passes_call (takes_of rfl rfl rfl rfl) fun _ _ _ _ z => z) (pa_cons (pv 4) (pa_cons (pv 5) pa_nil))) (nomark _)) (pw_or (pt_not (pt_val (pe_call (ok_is_fraction T) (hr.mono (by decide)) (by rfl) T.g_is_fraction T.F_is_fraction.kp T.b_is_fraction .nil (passes_call (takes_of rfl rfl rfl rfl) fun _ _ _ _ z => z) (pa_cons (pv 6) pa_nil)))) (pw_or1 (pt_val (pe_call (ok_is_fraction T) (hr.mono (by decide)) (by rfl) T.g_is_fraction T.F_is_fraction.kp T.b_is_fraction .nil (passes_call (takes_of rfl rfl rfl rfl) fun _ _ _ _ z => z) (pa_cons (pe_tup (pa_cons (pe_op op_mulU pe_int (pe_ix (kix_tup K) (pv 6) pe_int (fun _ _ => rfl))) (pa_cons (pe_op op_mulU pe_int (pe_ix (kix_tup K) (pv 6) pe_int (fun _ _ => rfl))) pa_nil))) pa_nil)))))))
        (pss_one (ps_ret pe_bl))
        pss_nil)
      (pss_cons (ps_if (pt_not (pt_val (pe_call (ok_law_round T) (hr.mono (by decide)) (by rfl) T.g_law_round T.F_law_round.kp T.b_law_round .nil (passes_call (takes_of rfl rfl rfl rfl) fun _ _ _ _ z => z) (pa_cons (pv 6) pa_nil))))
        (pss_one (ps_ret pe_bl))
        pss_nil)
      (pss_one (ps_expr (pe_bm PySem.F.plainAttrs_list PySem.F.slot_list_append PySem.F.type_list_append mt_append (pv 2) (pa_cons (pv 6) pa_nil)))))))))))
      (pss_cons (ps_for (passes_of rfl) rfl (pi_range1 (by rfl) T.z_range (pa_cons pe_int pa_nil)) (pg_name (i := 3) sc_law.nd rfl (by first | exact Or.inl rfl | exact Or.inr rfl))
        (pss_cons (ps_par (i := 6) (j := 7) rfl sc_law.nd rfl rfl (by decide) rfl rfl (pa_cons (pe_ix (kix_list K) (pv 2) (pv 3) (fun _ _ => rfl)) (pa_cons (pe_ix (kix_list K) (pv 2) (pe_op op_mod (pe_callTy call_int1 (by rfl) T.z_int (by decide +kernel) (pa_cons (pe_ix (kix_list K) (pv 1) (pe_op op_add pe_int (pv 3)) (fun _ _ => rfl)) pa_nil)) pe_int) (fun _ _ => rfl)) pa_nil)) (by rfl))
      (pss_cons (ps_set (i := 5) sc_law.nd rfl (by first | exact Or.inl rfl | exact Or.inr rfl) (pe_tup (pa_cons (pe_un un_neg (pe_ix (kix_tup K) (pv 7) pe_int (fun _ _ => rfl))) (pa_cons (pe_ix (kix_tup K) (pv 7) pe_int (fun _ _ => rfl)) pa_nil))))
      (pss_cons (ps_if (PW.pt (pw_or (pt_cmpR (kop_neD K (Z.room64 hr)) (pe_call (ok_plus T) (hr.mono (by decide)) (by rfl) T.g_plus T.F_plus.kp T.b_plus .nil (passes_call (takes_of rfl rfl rfl rfl) fun _ _ _ _ z => z) (pa_cons (pv 6) (pa_cons (pv 7) pa_nil))) (pe_call (ok_law_plus T) (hr.mono (by decide)) (by rfl) T.g_law_plus T.F_law_plus.kp T.b_law_plus .nil (passes_call (takes_of rfl rfl rfl rfl) fun _ _ _ _ z => z) (pa_cons (pv 6) (pa_cons (pv 7) pa_nil))) (nomark _)) (pw_or1 (pt_cmpR (kop_neD K (Z.room64 hr)) (pe_call (ok_minus T) (hr.mono (by decide)) (by rfl) T.g_minus T.F_minus.kp T.b_minus .nil (passes_call (takes_of rfl rfl rfl rfl) fun _ _ _ _ z => z) (pa_cons (pv 6) (pa_cons (pv 7) pa_nil))) (pe_call (ok_law_plus T) (hr.mono (by decide)) (by rfl) T.g_law_plus T.F_law_plus.kp T.b_law_plus .nil (passes_call (takes_of rfl rfl rfl rfl) fun _ _ _ _ z => z) (pa_cons (pv 6) (pa_cons (pv 5) pa_nil))) (nomark _)))))
        (pss_one (ps_ret pe_bl))
        pss_nil)
      (pss_cons (ps_if (PW.pt (pw_or (pt_cmpR (kop_neD K (Z.room64 hr)) (pe_call (ok_times T) (hr.mono (by decide)) (by rfl) T.g_times T.F_times.kp T.b_times .nil (passes_call (takes_of rfl rfl rfl rfl) fun _ _ _ _ z => z) (pa_cons (pv 6) (pa_cons (pv 7) pa_nil))) (pe_call (ok_law_times T) (hr.mono (by decide)) (by rfl) T.g_law_times T.F_law_times.kp T.b_law_times .nil (passes_call (takes_of rfl rfl rfl rfl) fun _ _ _ _ z => z) (pa_cons (pv 6) (pa_cons (pv 7) pa_nil))) (nomark _)) (pw_or1 (pt_cmpR (kop_neD K (Z.room64 hr)) (pe_call (ok_is_less T) (hr.mono (by decide)) (by rfl) T.g_is_less T.F_is_less.kp T.b_is_less .nil (passes_call (takes_of rfl rfl rfl rfl) fun _ _ _ _ z => z) (pa_cons (pv 6) (pa_cons (pv 7) pa_nil))) (pe_call (ok_law_less T) (hr.mono (by decide)) (by rfl) T.g_law_less T.F_law_less.kp T.b_law_less .nil (passes_call (takes_of rfl rfl rfl rfl) fun _ _ _ _ z => z) (pa_cons (pv 6) (pa_cons (pv 7) pa_nil))) (nomark _)))))
        (pss_one (ps_ret pe_bl))
        pss_nil)
      (pss_one (ps_if (pt_cmpR op_eq (pe_ix (kix_tup K) (pv 7) pe_int (fun _ _ => rfl)) pe_int (nomark _))
        (pss_one (ps_if (pt_cmpR (kop_neD K (Z.room64 hr)) (pe_call (ok_law_refused T) (hr.mono (by decide)) (by rfl) T.g_law_refused T.F_law_refused.kp T.b_law_refused .nil (passes_call (takes_of rfl rfl rfl rfl) fun _ _ _ _ z => z) (pa_cons pe_int (pa_cons (pv 6) (pa_cons (pv 7) pa_nil)))) (pe_tup (pa_cons pe_bl (pa_cons (pe_op op_mulU (pe_ix (kix_tup K) (pv 6) pe_int (fun _ _ => rfl)) (pe_ix (kix_tup K) (pv 7) pe_int (fun _ _ => rfl))) pa_nil))) (nomark _))
        (pss_one (ps_ret pe_bl))
        pss_nil))
        (pss_one (ps_if (pt_cmpR (kop_neD K (Z.room64 hr)) (pe_call (ok_over T) (hr.mono (by decide)) (by rfl) T.g_over T.F_over.kp T.b_over .nil (passes_call (takes_of rfl rfl rfl rfl) fun _ _ _ _ z => z) (pa_cons (pv 6) (pa_cons (pv 7) pa_nil))) (pe_call (ok_law_lowest T) (hr.mono (by decide)) (by rfl) T.g_law_lowest T.F_law_lowest.kp T.b_law_lowest .nil (passes_call (takes_of rfl rfl rfl rfl) fun _ _ _ _ z => z) (pa_cons (pe_op op_mulU (pe_ix (kix_tup K) (pv 6) pe_int (fun _ _ => rfl)) (pe_ix (kix_tup K) (pv 7) pe_int (fun _ _ => rfl))) (pa_cons (pe_op op_mulU (pe_ix (kix_tup K) (pv 6) pe_int (fun _ _ => rfl)) (pe_ix (kix_tup K) (pv 7) pe_int (fun _ _ => rfl))) pa_nil))) (nomark _))
        (pss_one (ps_ret pe_bl))
        pss_nil)))))))))
      (pss_cons (ps_set (i := 8) sc_law.nd rfl (by first | exact Or.inl rfl | exact Or.inr rfl) (pe_callTy (kcall_list K) (by rfl) T.z_list (by decide +kernel) (pa_cons (pv 2) pa_nil)))
      (pss_one (ps_ret (pe_and (pe_cmpR (kop_eqD K (Z.room64 hr)) (pe_call (ok_added T) (hr.mono (by decide)) (by rfl) T.g_added T.F_added.kp T.b_added .nil (passes_call (takes_of rfl rfl rfl rfl) fun _ _ _ _ z => z) (pa_cons (pv 2) pa_nil)) (pe_call (ok_law_added T) (hr.mono (by decide)) (by rfl) T.g_law_added T.F_law_added.kp T.b_law_added .nil (passes_call (takes_of rfl rfl rfl rfl) fun _ _ _ _ z => z) (pa_cons (pv 2) pa_nil)) (nomark _)) (pe_and (pe_cmpR (kop_eqD K (Z.room64 hr)) (pv 2) (pv 8) (nomark _)) (pe_one (pe_cmpR (kop_eqD K (Z.room64 hr)) (pe_call (ok_added T) (hr.mono (by decide)) (by rfl) T.g_added T.F_added.kp T.b_added .nil (passes_call (takes_of rfl rfl rfl rfl) fun _ _ _ _ z => z) (pa_cons (pe_lst pa_nil) pa_nil)) (pe_tup (pa_cons pe_int (pa_cons pe_int pa_nil))) (nomark _)))))))))))), ?_⟩)
  exact R.law_run (xs_law T) N_law h (law_true T)
end
theorem all_mk {P : Program} {w : World} {K : PySem.W.Frag} {h : Heap} {mg : Str → Option Value} {fa : Addr} (X : K.In h) (G : h.Ns mainGlobals mg) (hfa : mg "law" = some (.ref fa))
    {c_WebError c_ZeroDivisor f_WebError___init__ f_fraction f_is_fraction f_plus f_minus f_times f_over f_is_less f_floor f_ceiling f_scaled f_added f_law_numbers f_law_lowest f_law_plus f_law_times f_law_less f_law_added f_law_refused f_law_pair f_law_good f_law_round f_law : Addr}
    {od_WebError___init__ an_WebError___init__ od_fraction an_fraction od_is_fraction an_is_fraction od_plus an_plus od_minus an_minus od_times an_times od_over an_over od_is_less an_is_less od_floor an_floor od_ceiling an_ceiling od_scaled an_scaled od_added an_added od_law_numbers an_law_numbers od_law_lowest an_law_lowest od_law_plus an_law_plus od_law_times an_law_times od_law_less an_law_less od_law_added an_law_added od_law_refused an_law_refused od_law_pair an_law_pair od_law_good an_law_good od_law_round an_law_round od_law an_law : Option Addr} {sl_WebError___init__ sl_fraction sl_is_fraction sl_plus sl_minus sl_times sl_over sl_is_less sl_floor sl_ceiling sl_scaled sl_added sl_law_numbers sl_law_lowest sl_law_plus sl_law_times sl_law_less sl_law_added sl_law_refused sl_law_pair sl_law_good sl_law_round sl_law : Array (Option Value)} {oc_WebError___init__ kV_WebError___init__ dc_WebError___init__ pm_WebError___init__ cd_WebError___init__ ct_WebError___init__ oc_fraction kV_fraction dc_fraction pm_fraction cd_fraction ct_fraction oc_is_fraction kV_is_fraction dc_is_fraction pm_is_fraction cd_is_fraction ct_is_fraction oc_plus kV_plus dc_plus pm_plus cd_plus ct_plus oc_minus kV_minus dc_minus pm_minus cd_minus ct_minus oc_times kV_times dc_times pm_times cd_times ct_times oc_over kV_over dc_over pm_over cd_over ct_over oc_is_less kV_is_less dc_is_less pm_is_less cd_is_less ct_is_less oc_floor kV_floor dc_floor pm_floor cd_floor ct_floor oc_ceiling kV_ceiling dc_ceiling pm_ceiling cd_ceiling ct_ceiling oc_scaled kV_scaled dc_scaled pm_scaled cd_scaled ct_scaled oc_added kV_added dc_added pm_added cd_added ct_added oc_law_numbers kV_law_numbers dc_law_numbers pm_law_numbers cd_law_numbers ct_law_numbers oc_law_lowest kV_law_lowest dc_law_lowest pm_law_lowest cd_law_lowest ct_law_lowest oc_law_plus kV_law_plus dc_law_plus pm_law_plus cd_law_plus ct_law_plus oc_law_times kV_law_times dc_law_times pm_law_times cd_law_times ct_law_times oc_law_less kV_law_less dc_law_less pm_law_less cd_law_less ct_law_less oc_law_added kV_law_added dc_law_added pm_law_added cd_law_added ct_law_added oc_law_refused kV_law_refused dc_law_refused pm_law_refused cd_law_refused ct_law_refused oc_law_pair kV_law_pair dc_law_pair pm_law_pair cd_law_pair ct_law_pair oc_law_good kV_law_good dc_law_good pm_law_good cd_law_good ct_law_good oc_law_round kV_law_round dc_law_round pm_law_round cd_law_round ct_law_round oc_law kV_law dc_law pm_law cd_law ct_law : Value}
    {nm_WebError qn_WebError nm_ZeroDivisor qn_ZeroDivisor : Str} {N_WebError N_ZeroDivisor : Addr} {bs_WebError bm_WebError sub_WebError bs_ZeroDivisor bm_ZeroDivisor sub_ZeroDivisor : List Value} {st_WebError st_ZeroDivisor : List Str} {ab_WebError ab_ZeroDivisor : Bool} {col_WebError col_ZeroDivisor : Option Bool} {dd_WebError dd_ZeroDivisor : Option Addr} {m0_WebError m1_WebError m2_WebError m3_WebError m5_WebError m0_ZeroDivisor m1_ZeroDivisor m2_ZeroDivisor m3_ZeroDivisor m5_ZeroDivisor : Option Value}
    
    (aC_WebError : PySem.W.nsIn K mainGlobals "WebError" = some (some (.ref c_WebError)))
    (aC_ZeroDivisor : PySem.W.nsIn K mainGlobals "ZeroDivisor" = some (some (.ref c_ZeroDivisor)))
    (a_WebError___init__ : PySem.W.findIn K (.ref c_WebError) "__init__" = some (some (.ref f_WebError___init__)))
    (ty_WebError___init__ : PySem.W.typeIn K (.ref f_WebError___init__) = some (.type "function"))
    (l_WebError___init__ : K.lookup f_WebError___init__ = some ⟨oc_WebError___init__, od_WebError___init__, .func (PySem.W.fnOf "__init__" "WebError.__init__" (defArgs s_WebError___init__) (defBody s_WebError___init__) (defScope s_WebError___init__) .none kV_WebError___init__ dc_WebError___init__ pm_WebError___init__ an_WebError___init__ cd_WebError___init__ ct_WebError___init__), sl_WebError___init__⟩)
    (cdw_WebError___init__ : PySem.W.codeIn K cd_WebError___init__ "WebError.__init__" = true)
    (kp_WebError___init__ : PySem.W.keepIn K (.ref f_WebError___init__) = true)
    (a_fraction : PySem.W.nsIn K mainGlobals "fraction" = some (some (.ref f_fraction)))
    (l_fraction : K.lookup f_fraction = some ⟨oc_fraction, od_fraction, .func (PySem.W.fnOf "fraction" "fraction" (defArgs s_fraction) (defBody s_fraction) (defScope s_fraction) .none kV_fraction dc_fraction pm_fraction an_fraction cd_fraction ct_fraction), sl_fraction⟩)
    (cdw_fraction : PySem.W.codeIn K cd_fraction "fraction" = true)
    (kp_fraction : PySem.W.keepIn K (.ref f_fraction) = true)
    (a_is_fraction : PySem.W.nsIn K mainGlobals "is_fraction" = some (some (.ref f_is_fraction)))
    (l_is_fraction : K.lookup f_is_fraction = some ⟨oc_is_fraction, od_is_fraction, .func (PySem.W.fnOf "is_fraction" "is_fraction" (defArgs s_is_fraction) (defBody s_is_fraction) (defScope s_is_fraction) .none kV_is_fraction dc_is_fraction pm_is_fraction an_is_fraction cd_is_fraction ct_is_fraction), sl_is_fraction⟩)
    (cdw_is_fraction : PySem.W.codeIn K cd_is_fraction "is_fraction" = true)
    (kp_is_fraction : PySem.W.keepIn K (.ref f_is_fraction) = true)
    (a_plus : PySem.W.nsIn K mainGlobals "plus" = some (some (.ref f_plus)))
    (l_plus : K.lookup f_plus = some ⟨oc_plus, od_plus, .func (PySem.W.fnOf "plus" "plus" (defArgs s_plus) (defBody s_plus) (defScope s_plus) .none kV_plus dc_plus pm_plus an_plus cd_plus ct_plus), sl_plus⟩)
    (cdw_plus : PySem.W.codeIn K cd_plus "plus" = true)
    (kp_plus : PySem.W.keepIn K (.ref f_plus) = true)
    (a_minus : PySem.W.nsIn K mainGlobals "minus" = some (some (.ref f_minus)))
    (l_minus : K.lookup f_minus = some ⟨oc_minus, od_minus, .func (PySem.W.fnOf "minus" "minus" (defArgs s_minus) (defBody s_minus) (defScope s_minus) .none kV_minus dc_minus pm_minus an_minus cd_minus ct_minus), sl_minus⟩)
    (cdw_minus : PySem.W.codeIn K cd_minus "minus" = true)
    (kp_minus : PySem.W.keepIn K (.ref f_minus) = true)
    (a_times : PySem.W.nsIn K mainGlobals "times" = some (some (.ref f_times)))
    (l_times : K.lookup f_times = some ⟨oc_times, od_times, .func (PySem.W.fnOf "times" "times" (defArgs s_times) (defBody s_times) (defScope s_times) .none kV_times dc_times pm_times an_times cd_times ct_times), sl_times⟩)
    (cdw_times : PySem.W.codeIn K cd_times "times" = true)
    (kp_times : PySem.W.keepIn K (.ref f_times) = true)
    (a_over : PySem.W.nsIn K mainGlobals "over" = some (some (.ref f_over)))
    (l_over : K.lookup f_over = some ⟨oc_over, od_over, .func (PySem.W.fnOf "over" "over" (defArgs s_over) (defBody s_over) (defScope s_over) .none kV_over dc_over pm_over an_over cd_over ct_over), sl_over⟩)
    (cdw_over : PySem.W.codeIn K cd_over "over" = true)
    (kp_over : PySem.W.keepIn K (.ref f_over) = true)
    (a_is_less : PySem.W.nsIn K mainGlobals "is_less" = some (some (.ref f_is_less)))
    (l_is_less : K.lookup f_is_less = some ⟨oc_is_less, od_is_less, .func (PySem.W.fnOf "is_less" "is_less" (defArgs s_is_less) (defBody s_is_less) (defScope s_is_less) .none kV_is_less dc_is_less pm_is_less an_is_less cd_is_less ct_is_less), sl_is_less⟩)
    (cdw_is_less : PySem.W.codeIn K cd_is_less "is_less" = true)
    (kp_is_less : PySem.W.keepIn K (.ref f_is_less) = true)
    (a_floor : PySem.W.nsIn K mainGlobals "floor" = some (some (.ref f_floor)))
    (l_floor : K.lookup f_floor = some ⟨oc_floor, od_floor, .func (PySem.W.fnOf "floor" "floor" (defArgs s_floor) (defBody s_floor) (defScope s_floor) .none kV_floor dc_floor pm_floor an_floor cd_floor ct_floor), sl_floor⟩)
    (cdw_floor : PySem.W.codeIn K cd_floor "floor" = true)
    (kp_floor : PySem.W.keepIn K (.ref f_floor) = true)
    (a_ceiling : PySem.W.nsIn K mainGlobals "ceiling" = some (some (.ref f_ceiling)))
    (l_ceiling : K.lookup f_ceiling = some ⟨oc_ceiling, od_ceiling, .func (PySem.W.fnOf "ceiling" "ceiling" (defArgs s_ceiling) (defBody s_ceiling) (defScope s_ceiling) .none kV_ceiling dc_ceiling pm_ceiling an_ceiling cd_ceiling ct_ceiling), sl_ceiling⟩)
    (cdw_ceiling : PySem.W.codeIn K cd_ceiling "ceiling" = true)
    (kp_ceiling : PySem.W.keepIn K (.ref f_ceiling) = true)
    (a_scaled : PySem.W.nsIn K mainGlobals "scaled" = some (some (.ref f_scaled)))
    (l_scaled : K.lookup f_scaled = some ⟨oc_scaled, od_scaled, .func (PySem.W.fnOf "scaled" "scaled" (defArgs s_scaled) (defBody s_scaled) (defScope s_scaled) .none kV_scaled dc_scaled pm_scaled an_scaled cd_scaled ct_scaled), sl_scaled⟩)
    (cdw_scaled : PySem.W.codeIn K cd_scaled "scaled" = true)
    (kp_scaled : PySem.W.keepIn K (.ref f_scaled) = true)
    (a_added : PySem.W.nsIn K mainGlobals "added" = some (some (.ref f_added)))
    (l_added : K.lookup f_added = some ⟨oc_added, od_added, .func (PySem.W.fnOf "added" "added" (defArgs s_added) (defBody s_added) (defScope s_added) .none kV_added dc_added pm_added an_added cd_added ct_added), sl_added⟩)
    (cdw_added : PySem.W.codeIn K cd_added "added" = true)
    (kp_added : PySem.W.keepIn K (.ref f_added) = true)
    (a_law_numbers : PySem.W.nsIn K mainGlobals "_law_numbers" = some (some (.ref f_law_numbers)))
    (l_law_numbers : K.lookup f_law_numbers = some ⟨oc_law_numbers, od_law_numbers, .func (PySem.W.fnOf "_law_numbers" "_law_numbers" (defArgs s_law_numbers) (defBody s_law_numbers) (defScope s_law_numbers) .none kV_law_numbers dc_law_numbers pm_law_numbers an_law_numbers cd_law_numbers ct_law_numbers), sl_law_numbers⟩)
    (cdw_law_numbers : PySem.W.codeIn K cd_law_numbers "_law_numbers" = true)
    (kp_law_numbers : PySem.W.keepIn K (.ref f_law_numbers) = true)
    (a_law_lowest : PySem.W.nsIn K mainGlobals "_law_lowest" = some (some (.ref f_law_lowest)))
    (l_law_lowest : K.lookup f_law_lowest = some ⟨oc_law_lowest, od_law_lowest, .func (PySem.W.fnOf "_law_lowest" "_law_lowest" (defArgs s_law_lowest) (defBody s_law_lowest) (defScope s_law_lowest) .none kV_law_lowest dc_law_lowest pm_law_lowest an_law_lowest cd_law_lowest ct_law_lowest), sl_law_lowest⟩)
    (cdw_law_lowest : PySem.W.codeIn K cd_law_lowest "_law_lowest" = true)
    (kp_law_lowest : PySem.W.keepIn K (.ref f_law_lowest) = true)
    (a_law_plus : PySem.W.nsIn K mainGlobals "_law_plus" = some (some (.ref f_law_plus)))
    (l_law_plus : K.lookup f_law_plus = some ⟨oc_law_plus, od_law_plus, .func (PySem.W.fnOf "_law_plus" "_law_plus" (defArgs s_law_plus) (defBody s_law_plus) (defScope s_law_plus) .none kV_law_plus dc_law_plus pm_law_plus an_law_plus cd_law_plus ct_law_plus), sl_law_plus⟩)
    (cdw_law_plus : PySem.W.codeIn K cd_law_plus "_law_plus" = true)
    (kp_law_plus : PySem.W.keepIn K (.ref f_law_plus) = true)
    (a_law_times : PySem.W.nsIn K mainGlobals "_law_times" = some (some (.ref f_law_times)))
    (l_law_times : K.lookup f_law_times = some ⟨oc_law_times, od_law_times, .func (PySem.W.fnOf "_law_times" "_law_times" (defArgs s_law_times) (defBody s_law_times) (defScope s_law_times) .none kV_law_times dc_law_times pm_law_times an_law_times cd_law_times ct_law_times), sl_law_times⟩)
    (cdw_law_times : PySem.W.codeIn K cd_law_times "_law_times" = true)
    (kp_law_times : PySem.W.keepIn K (.ref f_law_times) = true)
    (a_law_less : PySem.W.nsIn K mainGlobals "_law_less" = some (some (.ref f_law_less)))
    (l_law_less : K.lookup f_law_less = some ⟨oc_law_less, od_law_less, .func (PySem.W.fnOf "_law_less" "_law_less" (defArgs s_law_less) (defBody s_law_less) (defScope s_law_less) .none kV_law_less dc_law_less pm_law_less an_law_less cd_law_less ct_law_less), sl_law_less⟩)
    (cdw_law_less : PySem.W.codeIn K cd_law_less "_law_less" = true)
    (kp_law_less : PySem.W.keepIn K (.ref f_law_less) = true)
    (a_law_added : PySem.W.nsIn K mainGlobals "_law_added" = some (some (.ref f_law_added)))
    (l_law_added : K.lookup f_law_added = some ⟨oc_law_added, od_law_added, .func (PySem.W.fnOf "_law_added" "_law_added" (defArgs s_law_added) (defBody s_law_added) (defScope s_law_added) .none kV_law_added dc_law_added pm_law_added an_law_added cd_law_added ct_law_added), sl_law_added⟩)
    (cdw_law_added : PySem.W.codeIn K cd_law_added "_law_added" = true)
    (kp_law_added : PySem.W.keepIn K (.ref f_law_added) = true)
    (a_law_refused : PySem.W.nsIn K mainGlobals "_law_refused" = some (some (.ref f_law_refused)))
    (l_law_refused : K.lookup f_law_refused = some ⟨oc_law_refused, od_law_refused, .func (PySem.W.fnOf "_law_refused" "_law_refused" (defArgs s_law_refused) (defBody s_law_refused) (defScope s_law_refused) .none kV_law_refused dc_law_refused pm_law_refused an_law_refused cd_law_refused ct_law_refused), sl_law_refused⟩)
    (cdw_law_refused : PySem.W.codeIn K cd_law_refused "_law_refused" = true)
    (kp_law_refused : PySem.W.keepIn K (.ref f_law_refused) = true)
    (a_law_pair : PySem.W.nsIn K mainGlobals "_law_pair" = some (some (.ref f_law_pair)))
    (l_law_pair : K.lookup f_law_pair = some ⟨oc_law_pair, od_law_pair, .func (PySem.W.fnOf "_law_pair" "_law_pair" (defArgs s_law_pair) (defBody s_law_pair) (defScope s_law_pair) .none kV_law_pair dc_law_pair pm_law_pair an_law_pair cd_law_pair ct_law_pair), sl_law_pair⟩)
    (cdw_law_pair : PySem.W.codeIn K cd_law_pair "_law_pair" = true)
    (kp_law_pair : PySem.W.keepIn K (.ref f_law_pair) = true)
    (a_law_good : PySem.W.nsIn K mainGlobals "_law_good" = some (some (.ref f_law_good)))
    (l_law_good : K.lookup f_law_good = some ⟨oc_law_good, od_law_good, .func (PySem.W.fnOf "_law_good" "_law_good" (defArgs s_law_good) (defBody s_law_good) (defScope s_law_good) .none kV_law_good dc_law_good pm_law_good an_law_good cd_law_good ct_law_good), sl_law_good⟩)
    (cdw_law_good : PySem.W.codeIn K cd_law_good "_law_good" = true)
    (kp_law_good : PySem.W.keepIn K (.ref f_law_good) = true)
    (a_law_round : PySem.W.nsIn K mainGlobals "_law_round" = some (some (.ref f_law_round)))
    (l_law_round : K.lookup f_law_round = some ⟨oc_law_round, od_law_round, .func (PySem.W.fnOf "_law_round" "_law_round" (defArgs s_law_round) (defBody s_law_round) (defScope s_law_round) .none kV_law_round dc_law_round pm_law_round an_law_round cd_law_round ct_law_round), sl_law_round⟩)
    (cdw_law_round : PySem.W.codeIn K cd_law_round "_law_round" = true)
    (kp_law_round : PySem.W.keepIn K (.ref f_law_round) = true)
    (a_law : PySem.W.nsIn K mainGlobals "law" = some (some (.ref f_law)))
    (l_law : K.lookup f_law = some ⟨oc_law, od_law, .func (PySem.W.fnOf "law" "law" (defArgs s_law) (defBody s_law) (defScope s_law) .none kV_law dc_law pm_law an_law cd_law ct_law), sl_law⟩)
    (cdw_law : PySem.W.codeIn K cd_law "law" = true)
    (kp_law : PySem.W.keepIn K (.ref f_law) = true)
    (gt : PySem.W.specialIn K (.builtin "object.__class__") "__get__" = some (some (.builtin "getset_descriptor.__get__")))
    (tk : PySem.W.takesIn K (.builtin "object.__class__") = some true)
    (ib : PySem.W.isClsIn K c_WebError = true)
    (xL_WebError : K.lookup c_WebError = some (excClassObj nm_WebError qn_WebError c_WebError N_WebError bs_WebError bm_WebError true st_WebError sub_WebError ab_WebError col_WebError dd_WebError m0_WebError m1_WebError m2_WebError m3_WebError m5_WebError "ValueError.__new__"))
    (rv_WebError : PySem.HandSPX.refsVE bm_WebError = true)
    (sa_WebError : PySem.W.findIn K (.ref c_WebError) "__setattr__" = some (some (.builtin "object.__setattr__")))
    (ga_WebError : PySem.W.findIn K (.ref c_WebError) "__getattribute__" = some (some (.builtin "BaseException.__getattribute__")))
    (gg_WebError : PySem.W.findIn K (.ref c_WebError) "__getattr__" = some none)
    (nb_WebError : PySem.W.findIn K (.ref c_WebError) "at" = some none)
    (in_WebError : PySem.W.findIn K (.ref c_WebError) "__init__" = some (some (.ref f_WebError___init__)))
    (eC_WebError : PySem.W.subIn K (.ref c_WebError) (.type "BaseException") = some true)
    (tC_WebError : PySem.W.typeIn K (.ref c_WebError) = some (.type "type"))
    (hC_WebError : PySem.W.hasDictIn K c_WebError = true)
    (kC_WebError : PySem.W.keepIn K (.ref c_WebError) = true)
    (cl_WebError : PySem.W.findIn K (.ref c_WebError) "__class__" = some (some (.builtin "object.__class__")))
    (mr_WebError : PySem.W.mroIn K c_WebError (.type "object") = some true)
    (xL_ZeroDivisor : K.lookup c_ZeroDivisor = some (excClassObj nm_ZeroDivisor qn_ZeroDivisor c_ZeroDivisor N_ZeroDivisor bs_ZeroDivisor bm_ZeroDivisor true st_ZeroDivisor sub_ZeroDivisor ab_ZeroDivisor col_ZeroDivisor dd_ZeroDivisor m0_ZeroDivisor m1_ZeroDivisor m2_ZeroDivisor m3_ZeroDivisor m5_ZeroDivisor "ValueError.__new__"))
    (rv_ZeroDivisor : PySem.HandSPX.refsVE bm_ZeroDivisor = true)
    (sa_ZeroDivisor : PySem.W.findIn K (.ref c_ZeroDivisor) "__setattr__" = some (some (.builtin "object.__setattr__")))
    (ga_ZeroDivisor : PySem.W.findIn K (.ref c_ZeroDivisor) "__getattribute__" = some (some (.builtin "BaseException.__getattribute__")))
    (gg_ZeroDivisor : PySem.W.findIn K (.ref c_ZeroDivisor) "__getattr__" = some none)
    (nb_ZeroDivisor : PySem.W.findIn K (.ref c_ZeroDivisor) "at" = some none)
    (in_ZeroDivisor : PySem.W.findIn K (.ref c_ZeroDivisor) "__init__" = some (some (.ref f_WebError___init__)))
    (eC_ZeroDivisor : PySem.W.subIn K (.ref c_ZeroDivisor) (.type "BaseException") = some true)
    (tC_ZeroDivisor : PySem.W.typeIn K (.ref c_ZeroDivisor) = some (.type "type"))
    (hC_ZeroDivisor : PySem.W.hasDictIn K c_ZeroDivisor = true)
    (kC_ZeroDivisor : PySem.W.keepIn K (.ref c_ZeroDivisor) = true)
    (cl_ZeroDivisor : PySem.W.findIn K (.ref c_ZeroDivisor) "__class__" = some (some (.builtin "object.__class__")))
    (mr_ZeroDivisor : PySem.W.mroIn K c_ZeroDivisor (.type "object") = some true)
    (sb_ZeroDivisor : PySem.W.subIn K (.ref c_ZeroDivisor) (.ref c_WebError) = some true)
    (is_ZeroDivisor_ZeroDivisor : PySem.W.kitOne K (.ref c_ZeroDivisor) (.ref c_ZeroDivisor) = some true)
    (z_len : PySem.W.nsIn K mainGlobals "len" = some none)
    (z_range : PySem.W.nsIn K mainGlobals "range" = some none)
    (z_abs : PySem.W.nsIn K mainGlobals "abs" = some none)
    (z_int : PySem.W.nsIn K mainGlobals "int" = some none)
    (z_sum : PySem.W.nsIn K mainGlobals "sum" = some none)
    (z_isinstance : PySem.W.nsIn K mainGlobals "isinstance" = some none)
    (z_list : PySem.W.nsIn K mainGlobals "list" = some none)
    (z_gcd : PySem.W.nsIn K mainGlobals "gcd" = some (some (.builtin "math.gcd")))
    (z_lcm : PySem.W.nsIn K mainGlobals "lcm" = some (some (.builtin "math.lcm")))
    : ∃ fd : FuncData, (∀ (s : Shared) (u : Value), BindsTo s fd ⟨[u], []⟩ [("script", u)]) ∧ ∀ base : Heap, K.In base → base.Ns mainGlobals mg → Z.RunAt P w K mg base (L2.CX P w) 6 fa fd ["script"] (spLaw K) := by
  have e := hfa.symm.trans (PySem.W.mg_of X G a_law)
  have e2 : f_law = fa := by cases e; rfl
  subst e2
  have F_WebError___init__ := fun_mk (st := s_WebError___init__) l_WebError___init__ cdw_WebError___init__ kp_WebError___init__
  have b_WebError___init__ := F_WebError___init__.binds (ps := ["self", "at"]) fun _ _ _ _ _ _ us hl => match us, hl with | [_, _], _ => rfl
  have F_fraction := fun_mk (st := s_fraction) l_fraction cdw_fraction kp_fraction
  have b_fraction := F_fraction.binds (ps := ["numerator", "denominator"]) fun _ _ _ _ _ _ us hl => match us, hl with | [_, _], _ => rfl
  have F_is_fraction := fun_mk (st := s_is_fraction) l_is_fraction cdw_is_fraction kp_is_fraction
  have b_is_fraction := F_is_fraction.binds (ps := ["pair"]) fun _ _ _ _ _ _ us hl => match us, hl with | [_], _ => rfl
  have F_plus := fun_mk (st := s_plus) l_plus cdw_plus kp_plus
  have b_plus := F_plus.binds (ps := ["first", "second"]) fun _ _ _ _ _ _ us hl => match us, hl with | [_, _], _ => rfl
  have F_minus := fun_mk (st := s_minus) l_minus cdw_minus kp_minus
  have b_minus := F_minus.binds (ps := ["first", "second"]) fun _ _ _ _ _ _ us hl => match us, hl with | [_, _], _ => rfl
  have F_times := fun_mk (st := s_times) l_times cdw_times kp_times
  have b_times := F_times.binds (ps := ["first", "second"]) fun _ _ _ _ _ _ us hl => match us, hl with | [_, _], _ => rfl
  have F_over := fun_mk (st := s_over) l_over cdw_over kp_over
  have b_over := F_over.binds (ps := ["first", "second"]) fun _ _ _ _ _ _ us hl => match us, hl with | [_, _], _ => rfl
  have F_is_less := fun_mk (st := s_is_less) l_is_less cdw_is_less kp_is_less
  have b_is_less := F_is_less.binds (ps := ["first", "second"]) fun _ _ _ _ _ _ us hl => match us, hl with | [_, _], _ => rfl
  have F_floor := fun_mk (st := s_floor) l_floor cdw_floor kp_floor
  have b_floor := F_floor.binds (ps := ["pair"]) fun _ _ _ _ _ _ us hl => match us, hl with | [_], _ => rfl
  have F_ceiling := fun_mk (st := s_ceiling) l_ceiling cdw_ceiling kp_ceiling
  have b_ceiling := F_ceiling.binds (ps := ["pair"]) fun _ _ _ _ _ _ us hl => match us, hl with | [_], _ => rfl
  have F_scaled := fun_mk (st := s_scaled) l_scaled cdw_scaled kp_scaled
  have b_scaled := F_scaled.binds (ps := ["fractions"]) fun _ _ _ _ _ _ us hl => match us, hl with | [_], _ => rfl
  have F_added := fun_mk (st := s_added) l_added cdw_added kp_added
  have b_added := F_added.binds (ps := ["fractions"]) fun _ _ _ _ _ _ us hl => match us, hl with | [_], _ => rfl
  have F_law_numbers := fun_mk (st := s_law_numbers) l_law_numbers cdw_law_numbers kp_law_numbers
  have b_law_numbers := F_law_numbers.binds (ps := ["script", "many"]) fun _ _ _ _ _ _ us hl => match us, hl with | [_, _], _ => rfl
  have F_law_lowest := fun_mk (st := s_law_lowest) l_law_lowest cdw_law_lowest kp_law_lowest
  have b_law_lowest := F_law_lowest.binds (ps := ["p", "q"]) fun _ _ _ _ _ _ us hl => match us, hl with | [_, _], _ => rfl
  have F_law_plus := fun_mk (st := s_law_plus) l_law_plus cdw_law_plus kp_law_plus
  have b_law_plus := F_law_plus.binds (ps := ["first", "second"]) fun _ _ _ _ _ _ us hl => match us, hl with | [_, _], _ => rfl
  have F_law_times := fun_mk (st := s_law_times) l_law_times cdw_law_times kp_law_times
  have b_law_times := F_law_times.binds (ps := ["first", "second"]) fun _ _ _ _ _ _ us hl => match us, hl with | [_, _], _ => rfl
  have F_law_less := fun_mk (st := s_law_less) l_law_less cdw_law_less kp_law_less
  have b_law_less := F_law_less.binds (ps := ["first", "second"]) fun _ _ _ _ _ _ us hl => match us, hl with | [_, _], _ => rfl
  have F_law_added := fun_mk (st := s_law_added) l_law_added cdw_law_added kp_law_added
  have b_law_added := F_law_added.binds (ps := ["rows"]) fun _ _ _ _ _ _ us hl => match us, hl with | [_], _ => rfl
  have F_law_refused := fun_mk (st := s_law_refused) l_law_refused cdw_law_refused kp_law_refused
  have b_law_refused := F_law_refused.binds (ps := ["way", "one", "two"]) fun _ _ _ _ _ _ us hl => match us, hl with | [_, _, _], _ => rfl
  have F_law_pair := fun_mk (st := s_law_pair) l_law_pair cdw_law_pair kp_law_pair
  have b_law_pair := F_law_pair.binds (ps := ["script", "numbers", "k"]) fun _ _ _ _ _ _ us hl => match us, hl with | [_, _, _], _ => rfl
  have F_law_good := fun_mk (st := s_law_good) l_law_good cdw_law_good kp_law_good
  have b_law_good := F_law_good.binds (ps := ["one"]) fun _ _ _ _ _ _ us hl => match us, hl with | [_], _ => rfl
  have F_law_round := fun_mk (st := s_law_round) l_law_round cdw_law_round kp_law_round
  have b_law_round := F_law_round.binds (ps := ["one"]) fun _ _ _ _ _ _ us hl => match us, hl with | [_], _ => rfl
  have F_law := fun_mk (st := s_law) l_law cdw_law kp_law
  have b_law := F_law.binds (ps := ["script"]) fun _ _ _ _ _ _ us hl => match us, hl with | [_], _ => rfl
  exact ⟨PySem.W.fnOf "law" "law" (defArgs s_law) (defBody s_law) (defScope s_law) .none kV_law dc_law pm_law an_law cd_law ct_law, fun s u => .of_eq rfl, fun base _ _ => ok_law (K := K) (mg := mg) {
    f_WebError___init__ := f_WebError___init__,
    fd_WebError___init__ := PySem.W.fnOf "__init__" "WebError.__init__" (defArgs s_WebError___init__) (defBody s_WebError___init__) (defScope s_WebError___init__) .none kV_WebError___init__ dc_WebError___init__ pm_WebError___init__ an_WebError___init__ cd_WebError___init__ ct_WebError___init__,
    F_WebError___init__ := F_WebError___init__,
    b_WebError___init__ := b_WebError___init__,
    f_fraction := f_fraction,
    fd_fraction := PySem.W.fnOf "fraction" "fraction" (defArgs s_fraction) (defBody s_fraction) (defScope s_fraction) .none kV_fraction dc_fraction pm_fraction an_fraction cd_fraction ct_fraction,
    F_fraction := F_fraction,
    b_fraction := b_fraction,
    g_fraction := PySem.W.mg_of X G a_fraction,
    f_is_fraction := f_is_fraction,
    fd_is_fraction := PySem.W.fnOf "is_fraction" "is_fraction" (defArgs s_is_fraction) (defBody s_is_fraction) (defScope s_is_fraction) .none kV_is_fraction dc_is_fraction pm_is_fraction an_is_fraction cd_is_fraction ct_is_fraction,
    F_is_fraction := F_is_fraction,
    b_is_fraction := b_is_fraction,
    g_is_fraction := PySem.W.mg_of X G a_is_fraction,
    f_plus := f_plus,
    fd_plus := PySem.W.fnOf "plus" "plus" (defArgs s_plus) (defBody s_plus) (defScope s_plus) .none kV_plus dc_plus pm_plus an_plus cd_plus ct_plus,
    F_plus := F_plus,
    b_plus := b_plus,
    g_plus := PySem.W.mg_of X G a_plus,
    f_minus := f_minus,
    fd_minus := PySem.W.fnOf "minus" "minus" (defArgs s_minus) (defBody s_minus) (defScope s_minus) .none kV_minus dc_minus pm_minus an_minus cd_minus ct_minus,
    F_minus := F_minus,
    b_minus := b_minus,
    g_minus := PySem.W.mg_of X G a_minus,
    f_times := f_times,
    fd_times := PySem.W.fnOf "times" "times" (defArgs s_times) (defBody s_times) (defScope s_times) .none kV_times dc_times pm_times an_times cd_times ct_times,
    F_times := F_times,
    b_times := b_times,
    g_times := PySem.W.mg_of X G a_times,
    f_over := f_over,
    fd_over := PySem.W.fnOf "over" "over" (defArgs s_over) (defBody s_over) (defScope s_over) .none kV_over dc_over pm_over an_over cd_over ct_over,
    F_over := F_over,
    b_over := b_over,
    g_over := PySem.W.mg_of X G a_over,
    f_is_less := f_is_less,
    fd_is_less := PySem.W.fnOf "is_less" "is_less" (defArgs s_is_less) (defBody s_is_less) (defScope s_is_less) .none kV_is_less dc_is_less pm_is_less an_is_less cd_is_less ct_is_less,
    F_is_less := F_is_less,
    b_is_less := b_is_less,
    g_is_less := PySem.W.mg_of X G a_is_less,
    f_floor := f_floor,
    fd_floor := PySem.W.fnOf "floor" "floor" (defArgs s_floor) (defBody s_floor) (defScope s_floor) .none kV_floor dc_floor pm_floor an_floor cd_floor ct_floor,
    F_floor := F_floor,
    b_floor := b_floor,
    g_floor := PySem.W.mg_of X G a_floor,
    f_ceiling := f_ceiling,
    fd_ceiling := PySem.W.fnOf "ceiling" "ceiling" (defArgs s_ceiling) (defBody s_ceiling) (defScope s_ceiling) .none kV_ceiling dc_ceiling pm_ceiling an_ceiling cd_ceiling ct_ceiling,
    F_ceiling := F_ceiling,
    b_ceiling := b_ceiling,
    g_ceiling := PySem.W.mg_of X G a_ceiling,
    f_scaled := f_scaled,
    fd_scaled := PySem.W.fnOf "scaled" "scaled" (defArgs s_scaled) (defBody s_scaled) (defScope s_scaled) .none kV_scaled dc_scaled pm_scaled an_scaled cd_scaled ct_scaled,
    F_scaled := F_scaled,
    b_scaled := b_scaled,
    g_scaled := PySem.W.mg_of X G a_scaled,
    f_added := f_added,
    fd_added := PySem.W.fnOf "added" "added" (defArgs s_added) (defBody s_added) (defScope s_added) .none kV_added dc_added pm_added an_added cd_added ct_added,
    F_added := F_added,
    b_added := b_added,
    g_added := PySem.W.mg_of X G a_added,
    f_law_numbers := f_law_numbers,
    fd_law_numbers := PySem.W.fnOf "_law_numbers" "_law_numbers" (defArgs s_law_numbers) (defBody s_law_numbers) (defScope s_law_numbers) .none kV_law_numbers dc_law_numbers pm_law_numbers an_law_numbers cd_law_numbers ct_law_numbers,
    F_law_numbers := F_law_numbers,
    b_law_numbers := b_law_numbers,
    g_law_numbers := PySem.W.mg_of X G a_law_numbers,
    f_law_lowest := f_law_lowest,
    fd_law_lowest := PySem.W.fnOf "_law_lowest" "_law_lowest" (defArgs s_law_lowest) (defBody s_law_lowest) (defScope s_law_lowest) .none kV_law_lowest dc_law_lowest pm_law_lowest an_law_lowest cd_law_lowest ct_law_lowest,
    F_law_lowest := F_law_lowest,
    b_law_lowest := b_law_lowest,
    g_law_lowest := PySem.W.mg_of X G a_law_lowest,
    f_law_plus := f_law_plus,
    fd_law_plus := PySem.W.fnOf "_law_plus" "_law_plus" (defArgs s_law_plus) (defBody s_law_plus) (defScope s_law_plus) .none kV_law_plus dc_law_plus pm_law_plus an_law_plus cd_law_plus ct_law_plus,
    F_law_plus := F_law_plus,
    b_law_plus := b_law_plus,
    g_law_plus := PySem.W.mg_of X G a_law_plus,
    f_law_times := f_law_times,
    fd_law_times := PySem.W.fnOf "_law_times" "_law_times" (defArgs s_law_times) (defBody s_law_times) (defScope s_law_times) .none kV_law_times dc_law_times pm_law_times an_law_times cd_law_times ct_law_times,
    F_law_times := F_law_times,
    b_law_times := b_law_times,
    g_law_times := PySem.W.mg_of X G a_law_times,
    f_law_less := f_law_less,
    fd_law_less := PySem.W.fnOf "_law_less" "_law_less" (defArgs s_law_less) (defBody s_law_less) (defScope s_law_less) .none kV_law_less dc_law_less pm_law_less an_law_less cd_law_less ct_law_less,
    F_law_less := F_law_less,
    b_law_less := b_law_less,
    g_law_less := PySem.W.mg_of X G a_law_less,
    f_law_added := f_law_added,
    fd_law_added := PySem.W.fnOf "_law_added" "_law_added" (defArgs s_law_added) (defBody s_law_added) (defScope s_law_added) .none kV_law_added dc_law_added pm_law_added an_law_added cd_law_added ct_law_added,
    F_law_added := F_law_added,
    b_law_added := b_law_added,
    g_law_added := PySem.W.mg_of X G a_law_added,
    f_law_refused := f_law_refused,
    fd_law_refused := PySem.W.fnOf "_law_refused" "_law_refused" (defArgs s_law_refused) (defBody s_law_refused) (defScope s_law_refused) .none kV_law_refused dc_law_refused pm_law_refused an_law_refused cd_law_refused ct_law_refused,
    F_law_refused := F_law_refused,
    b_law_refused := b_law_refused,
    g_law_refused := PySem.W.mg_of X G a_law_refused,
    f_law_pair := f_law_pair,
    fd_law_pair := PySem.W.fnOf "_law_pair" "_law_pair" (defArgs s_law_pair) (defBody s_law_pair) (defScope s_law_pair) .none kV_law_pair dc_law_pair pm_law_pair an_law_pair cd_law_pair ct_law_pair,
    F_law_pair := F_law_pair,
    b_law_pair := b_law_pair,
    g_law_pair := PySem.W.mg_of X G a_law_pair,
    f_law_good := f_law_good,
    fd_law_good := PySem.W.fnOf "_law_good" "_law_good" (defArgs s_law_good) (defBody s_law_good) (defScope s_law_good) .none kV_law_good dc_law_good pm_law_good an_law_good cd_law_good ct_law_good,
    F_law_good := F_law_good,
    b_law_good := b_law_good,
    g_law_good := PySem.W.mg_of X G a_law_good,
    f_law_round := f_law_round,
    fd_law_round := PySem.W.fnOf "_law_round" "_law_round" (defArgs s_law_round) (defBody s_law_round) (defScope s_law_round) .none kV_law_round dc_law_round pm_law_round an_law_round cd_law_round ct_law_round,
    F_law_round := F_law_round,
    b_law_round := b_law_round,
    g_law_round := PySem.W.mg_of X G a_law_round,
    f_law := f_law,
    fd_law := PySem.W.fnOf "law" "law" (defArgs s_law) (defBody s_law) (defScope s_law) .none kV_law dc_law pm_law an_law cd_law ct_law,
    F_law := F_law,
    b_law := b_law,
    g_law := PySem.W.mg_of X G a_law,
    c_WebError := c_WebError,
    x_WebError := ⟨⟨⟨_, _, _, _, _, _, _, _, _, _, _, _, _, _, _, xL_WebError, rv_WebError⟩, sa_WebError, eC_WebError, tC_WebError, kC_WebError⟩, nb_WebError, in_WebError, ty_WebError___init__, PySem.W.mg_of X G aC_WebError⟩,
    e_WebError := ⟨ga_WebError, gg_WebError, eC_WebError, hC_WebError, cl_WebError, gt, tk, mr_WebError⟩,
    ef_WebError := ⟨ga_WebError, gg_WebError, eC_WebError, hC_WebError⟩,
    c_ZeroDivisor := c_ZeroDivisor,
    x_ZeroDivisor := ⟨⟨⟨_, _, _, _, _, _, _, _, _, _, _, _, _, _, _, xL_ZeroDivisor, rv_ZeroDivisor⟩, sa_ZeroDivisor, eC_ZeroDivisor, tC_ZeroDivisor, kC_ZeroDivisor⟩, nb_ZeroDivisor, in_ZeroDivisor, ty_WebError___init__, PySem.W.mg_of X G aC_ZeroDivisor⟩,
    e_ZeroDivisor := ⟨ga_ZeroDivisor, gg_ZeroDivisor, eC_ZeroDivisor, hC_ZeroDivisor, cl_ZeroDivisor, gt, tk, mr_ZeroDivisor⟩,
    ef_ZeroDivisor := ⟨ga_ZeroDivisor, gg_ZeroDivisor, eC_ZeroDivisor, hC_ZeroDivisor⟩,
    em_ZeroDivisor := Z.exm_of eC_WebError ib tC_WebError sb_ZeroDivisor,
    is_ZeroDivisor_ZeroDivisor := is_ZeroDivisor_ZeroDivisor,
    z_len := PySem.W.mg_none_of X G z_len,
    z_range := PySem.W.mg_none_of X G z_range,
    z_abs := PySem.W.mg_none_of X G z_abs,
    z_int := PySem.W.mg_none_of X G z_int,
    z_sum := PySem.W.mg_none_of X G z_sum,
    z_isinstance := PySem.W.mg_none_of X G z_isinstance,
    z_list := PySem.W.mg_none_of X G z_list,
    z_gcd := PySem.W.mg_of X G z_gcd,
    z_lcm := PySem.W.mg_of X G z_lcm }⟩
theorem walk {l : PySem.W.OpenLaw} {q : Program} {loose : List Str} {XP : (Str → Option Value) → Heap → Prop} {YP : World → Heap → Prop} {d : DefRec} {K : Params → PySem.W.Frag} (hn : l.most = some 63) (hdf : d.params.defaults = [])
    (hY : ∀ (w : World) (h : Heap), YP w h → (K w.params).In h)
    (F : ∀ (w : World) (mg : Str → Option Value) (fa : Addr) (h : Heap), (K w.params).In h → h.Ns mainGlobals mg → mg d.name = some (.ref fa) →
      ∃ fd : FuncData, (∀ (s : Shared) (u : Value), BindsTo s fd ⟨[u], []⟩ [("script", u)]) ∧ ∀ base : Heap, (K w.params).In base → base.Ns mainGlobals mg → Z.RunAt l.prog w (K w.params) mg base (L2.CX l.prog w) 6 fa fd ["script"] (spLaw (K w.params))) :
    PySem.W.WalkO q loose XP YP l.row.toRowW d [] (fun f vs => PySem.call f vs) :=
  Z.walk_at (n := 63) (k := 6) (x := "script") (CX := fun w => L2.CX l.prog w) (sp := fun w => spLaw (K w.params)) hn (by decide) hdf ⟨rfl, by decide, by decide⟩ hY F
    (fun w H a ns hn hS => ⟨ns, H, [], hn, Z.Lay.nil, .cons ⟨a, rfl, hS⟩ .nil, fun G' H' v _ _ hv => by cases hv; rfl⟩)
    (fun w H s e s' z => by
      obtain ⟨_, _, _, _, _, _, _, _, _, _, _, _, z⟩ := z
      exact z)
end Q

set_option Elab.async false
open PySem PySem.W PyProof.Rows in
set_option maxRecDepth 100000 in
set_option maxHeartbeats 0 in
theorem PySem.Challenge.cw_trunkweb_k55_exact_fractions_holds : PySem.Challenge.rw_trunkweb_k55_exact_fractions.Holds := by
  w_on; o_law; k_head; (case hw => w_witness2)
  k_fill
  refine Q.walk (l := PySem.Challenge.rw_trunkweb_k55_exact_fractions) rfl rfl (fun w h Y => PySem.W.kIn_of Y) ?F
  case F =>
    intro w mg fa h KX G hmg
    refine' Q.all_mk KX G hmg ?aC_WebError ?aC_ZeroDivisor ?a_WebError___init__ ?ty_WebError___init__ ?l_WebError___init__ ?cdw_WebError___init__ ?kp_WebError___init__ ?a_fraction ?l_fraction ?cdw_fraction ?kp_fraction ?a_is_fraction ?l_is_fraction ?cdw_is_fraction ?kp_is_fraction ?a_plus ?l_plus ?cdw_plus ?kp_plus ?a_minus ?l_minus ?cdw_minus ?kp_minus ?a_times ?l_times ?cdw_times ?kp_times ?a_over ?l_over ?cdw_over ?kp_over ?a_is_less ?l_is_less ?cdw_is_less ?kp_is_less ?a_floor ?l_floor ?cdw_floor ?kp_floor ?a_ceiling ?l_ceiling ?cdw_ceiling ?kp_ceiling ?a_scaled ?l_scaled ?cdw_scaled ?kp_scaled ?a_added ?l_added ?cdw_added ?kp_added ?a_law_numbers ?l_law_numbers ?cdw_law_numbers ?kp_law_numbers ?a_law_lowest ?l_law_lowest ?cdw_law_lowest ?kp_law_lowest ?a_law_plus ?l_law_plus ?cdw_law_plus ?kp_law_plus ?a_law_times ?l_law_times ?cdw_law_times ?kp_law_times ?a_law_less ?l_law_less ?cdw_law_less ?kp_law_less ?a_law_added ?l_law_added ?cdw_law_added ?kp_law_added ?a_law_refused ?l_law_refused ?cdw_law_refused ?kp_law_refused ?a_law_pair ?l_law_pair ?cdw_law_pair ?kp_law_pair ?a_law_good ?l_law_good ?cdw_law_good ?kp_law_good ?a_law_round ?l_law_round ?cdw_law_round ?kp_law_round ?a_law ?l_law ?cdw_law ?kp_law ?gt ?tk ?ib ?xL_WebError ?rv_WebError ?sa_WebError ?ga_WebError ?gg_WebError ?nb_WebError ?in_WebError ?eC_WebError ?tC_WebError ?hC_WebError ?kC_WebError ?cl_WebError ?mr_WebError ?xL_ZeroDivisor ?rv_ZeroDivisor ?sa_ZeroDivisor ?ga_ZeroDivisor ?gg_ZeroDivisor ?nb_ZeroDivisor ?in_ZeroDivisor ?eC_ZeroDivisor ?tC_ZeroDivisor ?hC_ZeroDivisor ?kC_ZeroDivisor ?cl_ZeroDivisor ?mr_ZeroDivisor ?sb_ZeroDivisor ?is_ZeroDivisor_ZeroDivisor ?z_len ?z_range ?z_abs ?z_int ?z_sum ?z_isinstance ?z_list ?z_gcd ?z_lcm
    (case aC_WebError => k_is)
    (case aC_ZeroDivisor => k_is)
    (case a_WebError___init__ => k_is)
    (case ty_WebError___init__ => k_is)
    (case l_WebError___init__ => k_is)
    (case cdw_WebError___init__ => k_is)
    (case kp_WebError___init__ => k_is)
    (case a_fraction => k_is)
    (case l_fraction => k_is)
    (case cdw_fraction => k_is)
    (case kp_fraction => k_is)
    (case a_is_fraction => k_is)
    (case l_is_fraction => k_is)
    (case cdw_is_fraction => k_is)
    (case kp_is_fraction => k_is)
    (case a_plus => k_is)
    (case l_plus => k_is)
    (case cdw_plus => k_is)
    (case kp_plus => k_is)
    (case a_minus => k_is)
    (case l_minus => k_is)
    (case cdw_minus => k_is)
    (case kp_minus => k_is)
    (case a_times => k_is)
    (case l_times => k_is)
    (case cdw_times => k_is)
    (case kp_times => k_is)
    (case a_over => k_is)
    (case l_over => k_is)
    (case cdw_over => k_is)
    (case kp_over => k_is)
    (case a_is_less => k_is)
    (case l_is_less => k_is)
    (case cdw_is_less => k_is)
    (case kp_is_less => k_is)
    (case a_floor => k_is)
    (case l_floor => k_is)
    (case cdw_floor => k_is)
    (case kp_floor => k_is)
    (case a_ceiling => k_is)
    (case l_ceiling => k_is)
    (case cdw_ceiling => k_is)
    (case kp_ceiling => k_is)
    (case a_scaled => k_is)
    (case l_scaled => k_is)
    (case cdw_scaled => k_is)
    (case kp_scaled => k_is)
    (case a_added => k_is)
    (case l_added => k_is)
    (case cdw_added => k_is)
    (case kp_added => k_is)
    (case a_law_numbers => k_is)
    (case l_law_numbers => k_is)
    (case cdw_law_numbers => k_is)
    (case kp_law_numbers => k_is)
    (case a_law_lowest => k_is)
    (case l_law_lowest => k_is)
    (case cdw_law_lowest => k_is)
    (case kp_law_lowest => k_is)
    (case a_law_plus => k_is)
    (case l_law_plus => k_is)
    (case cdw_law_plus => k_is)
    (case kp_law_plus => k_is)
    (case a_law_times => k_is)
    (case l_law_times => k_is)
    (case cdw_law_times => k_is)
    (case kp_law_times => k_is)
    (case a_law_less => k_is)
    (case l_law_less => k_is)
    (case cdw_law_less => k_is)
    (case kp_law_less => k_is)
    (case a_law_added => k_is)
    (case l_law_added => k_is)
    (case cdw_law_added => k_is)
    (case kp_law_added => k_is)
    (case a_law_refused => k_is)
    (case l_law_refused => k_is)
    (case cdw_law_refused => k_is)
    (case kp_law_refused => k_is)
    (case a_law_pair => k_is)
    (case l_law_pair => k_is)
    (case cdw_law_pair => k_is)
    (case kp_law_pair => k_is)
    (case a_law_good => k_is)
    (case l_law_good => k_is)
    (case cdw_law_good => k_is)
    (case kp_law_good => k_is)
    (case a_law_round => k_is)
    (case l_law_round => k_is)
    (case cdw_law_round => k_is)
    (case kp_law_round => k_is)
    (case a_law => k_is)
    (case l_law => k_is)
    (case cdw_law => k_is)
    (case kp_law => k_is)
    (case gt => k_is)
    (case tk => k_is)
    (case ib => k_is)
    (case xL_WebError => k_is)
    (case rv_WebError => first | rfl | decide +kernel)
    (case sa_WebError => k_is)
    (case ga_WebError => k_is)
    (case gg_WebError => k_is)
    (case nb_WebError => k_is)
    (case in_WebError => k_is)
    (case eC_WebError => k_is)
    (case tC_WebError => k_is)
    (case hC_WebError => k_is)
    (case kC_WebError => k_is)
    (case cl_WebError => k_is)
    (case mr_WebError => k_is)
    (case xL_ZeroDivisor => k_is)
    (case rv_ZeroDivisor => first | rfl | decide +kernel)
    (case sa_ZeroDivisor => k_is)
    (case ga_ZeroDivisor => k_is)
    (case gg_ZeroDivisor => k_is)
    (case nb_ZeroDivisor => k_is)
    (case in_ZeroDivisor => k_is)
    (case eC_ZeroDivisor => k_is)
    (case tC_ZeroDivisor => k_is)
    (case hC_ZeroDivisor => k_is)
    (case kC_ZeroDivisor => k_is)
    (case cl_ZeroDivisor => k_is)
    (case mr_ZeroDivisor => k_is)
    (case sb_ZeroDivisor => k_is)
    (case is_ZeroDivisor_ZeroDivisor => kit_is)
    (case z_len => k_is)
    (case z_range => k_is)
    (case z_abs => k_is)
    (case z_int => k_is)
    (case z_sum => k_is)
    (case z_isinstance => k_is)
    (case z_list => k_is)
    (case z_gcd => k_is)
    (case z_lcm => k_is)

