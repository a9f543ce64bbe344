import PyProof.Rows.All
import HandS.ForMost
import HandS.Exc
import HandS.TryOnly
import HandS.ExcOwn
import HandS.ExcInit
import HandS.ExcField
import HandS.ExcIs
import HandS.WordsExc
import HandS.Wide
import KE.KExcIs
import PyProof.ReprRoads
import HandS.FStr
import HandS.StrMore
import HandS.Steps
import HandS.IsInst
import HandS.Text
import HandS.Gcd
import HandS.Style
import KE.KMathG
import KE.KMathGC
import Wide.All
import OpenK.AllK
import Wide.FinOn
import PySem.Challenge.RW_trunkweb_k57_loads_gains_and_fit_multipl
set_option Elab.async false
set_option linter.all false
set_option maxRecDepth 100000
set_option maxHeartbeats 2000000
/-! Z: what a reading comes to, with the heap parted: G what stays, L the cells that are owned. -/
namespace Z
open PySem PySem.Spec PyProof.Rows L2

theorem perm_swap {α : Type} (a b c : List α) : (a ++ (b ++ c)).Perm (b ++ (a ++ c)) := by
  have h : ((a ++ b) ++ c).Perm ((b ++ a) ++ c) := (List.perm_append_comm).append_right c
  rw [List.append_assoc, List.append_assoc] at h
  exact h
abbrev Cell := Addr × HO
/-- H is G with the owned cells L beside -/
structure Lay (G : Hp) (L : List Cell) (H : Hp) : Prop where
  off : ∀ b, (∀ c ∈ L, c.1 ≠ b) → H b = G b
  on : ∀ c ∈ L, H c.1 = some c.2 ∧ G c.1 = none
  nd : (L.map (·.1)).Nodup
theorem Lay.same {G H : Hp} {L : List Cell} (l : Lay G L H) : Same G H := fun b o e => by
  rw [l.off b fun c hc z => ?_]
  · exact e
  · have := (l.on c hc).2
    rw [z, e] at this
    cases this
theorem Lay.fresh {G H : Hp} {L : List Cell} {p : Addr} (l : Lay G L H) (h : H p = none) : ∀ c ∈ L, c.1 ≠ p := fun c hc z => by
  have := (l.on c hc).1
  rw [z, h] at this
  cases this
theorem Lay.freshG {G H : Hp} {L : List Cell} {p : Addr} (l : Lay G L H) (h : H p = none) : G p = none := by
  rw [← l.off p (l.fresh h)]
  exact h
theorem Lay.perm {G H : Hp} {L L' : List Cell} (l : Lay G L H) (q : L.Perm L') : Lay G L' H :=
  ⟨fun b hb => l.off b fun c hc => hb c (q.mem_iff.mp hc), fun c hc => l.on c (q.mem_iff.mpr hc), (q.map _).nodup_iff.mp l.nd⟩
theorem Lay.nil {H : Hp} : Lay H [] H := ⟨fun _ _ => rfl, fun _ h => (by cases h), by simp⟩
theorem Lay.grow {G H : Hp} {L : List Cell} {p : Addr} {o : HO} (l : Lay G L H) (h : H p = none) : Lay (upd G p o) L (upd H p o) := by
  have f := l.fresh h
  refine ⟨fun b hb => ?_, fun c hc => ?_, l.nd⟩
  · by_cases e : b = p
    · rw [e, upd_same, upd_same]
    · rw [upd_ne e, upd_ne e]; exact l.off b hb
  · rw [upd_ne (f c hc), upd_ne (f c hc)]; exact l.on c hc
theorem Lay.cell {G H : Hp} {L : List Cell} {p : Addr} {o : HO} (l : Lay G L H) (h : H p = none) : Lay G ((p, o) :: L) (upd H p o) := by
  have f := l.fresh h
  refine ⟨fun b hb => ?_, fun c hc => ?_, ?_⟩
  · have e : b ≠ p := fun z => hb (p, o) (List.mem_cons_self ..) z.symm
    rw [upd_ne e]
    exact l.off b fun c hc => hb c (List.mem_cons_of_mem _ hc)
  · rcases List.mem_cons.mp hc with z | z
    · subst z; exact ⟨upd_same, l.freshG h⟩
    · rw [upd_ne (f c z)]; exact l.on c z
  · rw [List.map_cons, List.nodup_cons]
    refine ⟨fun z => ?_, l.nd⟩
    obtain ⟨c, hc, e⟩ := List.mem_map.mp z
    exact f c hc e
theorem Lay.ne {G H : Hp} {L : List Cell} {p : Addr} {o : HO} (l : Lay G ((p, o) :: L) H) : ∀ c ∈ L, c.1 ≠ p := fun c hc z => by
  have := l.nd
  rw [List.map_cons, List.nodup_cons] at this
  exact this.1 (List.mem_map.mpr ⟨c, hc, z⟩)
theorem Lay.store {G H : Hp} {L : List Cell} {p : Addr} {o u : HO} (l : Lay G ((p, o) :: L) H) : Lay G ((p, u) :: L) (upd H p u) := by
  have f := l.ne
  have l0 := l.on (p, o) (List.mem_cons_self ..)
  refine ⟨fun b hb => ?_, fun c hc => ?_, by have := l.nd; simpa using this⟩
  · have e : b ≠ p := fun z => hb (p, u) (List.mem_cons_self ..) z.symm
    rw [upd_ne e]
    refine l.off b fun c hc => ?_
    rcases List.mem_cons.mp hc with z | z
    · subst z; exact fun z => e z.symm
    · exact hb c (List.mem_cons_of_mem _ z)
  · rcases List.mem_cons.mp hc with z | z
    · subst z; exact ⟨upd_same, l0.2⟩
    · rw [upd_ne (f c z)]; exact l.on c (List.mem_cons_of_mem _ z)
theorem Lay.freeze {G H : Hp} {L : List Cell} {p : Addr} {o : HO} (l : Lay G ((p, o) :: L) H) : Lay (upd G p o) L H := by
  have f := l.ne
  have l0 := l.on (p, o) (List.mem_cons_self ..)
  refine ⟨fun b hb => ?_, fun c hc => ?_, ?_⟩
  · by_cases e : b = p
    · rw [e, upd_same]; exact l0.1
    · rw [upd_ne e]
      refine l.off b fun c hc => ?_
      rcases List.mem_cons.mp hc with z | z
      · subst z; exact fun z => e z.symm
      · exact hb c z
  · rw [upd_ne (f c hc)]; exact l.on c (List.mem_cons_of_mem _ hc)
  · have := l.nd
    rw [List.map_cons, List.nodup_cons] at this
    exact this.2
theorem same_upd {G : Hp} {p : Addr} {o : HO} (h : G p = none) : Same G (upd G p o) := fun b x e => by
  rw [upd_ne (ne_of_none e h)]; exact e
theorem Lay.freezeAll {G H : Hp} : ∀ {L M : List Cell}, Lay G (L ++ M) H → ∃ G', Same G G' ∧ Lay G' M H ∧ ∀ c ∈ L, G' c.1 = some c.2
  | [], M, l => ⟨G, Same.refl G, l, fun _ h => (by cases h)⟩
  | (p, o) :: L, M, l => by
    have hp := (l.on (p, o) (List.mem_cons_self ..)).2
    have l' : Lay (upd G p o) (L ++ M) H := Lay.freeze l
    obtain ⟨G', s, l'', k⟩ := Lay.freezeAll l'
    refine ⟨G', (same_upd hp).trans s, l'', fun c hc => ?_⟩
    rcases List.mem_cons.mp hc with z | z
    · subst z; exact s _ _ upd_same
    · exact k c z

/-- a new cell taken out again -/
theorem Lay.uncell {G H : Hp} {L : List Cell} {p : Addr} {o : HO} (l : Lay G ((p, o) :: L) H) : ∃ H', H' p = none ∧ H = upd H' p o ∧ Lay G L H' := by
  refine ⟨fun b => if b = p then none else H b, if_pos rfl, ?_, fun b hb => ?_, fun c hc => ?_, ?_⟩
  · funext b
    by_cases hb : b = p
    · rw [hb, upd_same]; exact (l.on _ (List.mem_cons_self ..)).1
    · rw [upd_ne hb, if_neg hb]
  · by_cases h : b = p
    · rw [h, if_pos rfl]; exact ((l.on _ (List.mem_cons_self ..)).2).symm
    · rw [if_neg h]
      refine l.off b fun c hc => ?_
      rcases List.mem_cons.mp hc with z | z
      · subst z; exact fun z => h z.symm
      · exact hb c z
  · rw [if_neg (l.ne c hc)]; exact l.on c (List.mem_cons_of_mem _ hc)
  · have := l.nd
    rw [List.map_cons, List.nodup_cons] at this
    exact this.2

/-! ### descriptions -/
/-- a value, by what stays true as the heap grows -/
structure Rp where
  p : Hp → V → Prop
  up : ∀ {H H' : Hp} {v : V}, Same H H' → p H v → p H' v
/-- an owned thing: its address, its cells -/
structure Op where
  p : Hp → Addr → List Cell → Prop
  up : ∀ {H H' : Hp} {a : Addr} {cs : List Cell}, Same H H' → p H a cs → p H' a cs
/-- a value that may stand in a cell of somebody's: G, the cells -/
structure Bw where
  p : Hp → List Cell → V → Prop
  up : ∀ {H H' : Hp} {L L' : List Cell} {v : V}, Same H H' → (∀ c ∈ L, c ∈ L') → p H L v → p H' L' v
def pu (R : Rp) : Bw := ⟨fun G _ v => R.p G v, fun e _ h => R.up e h⟩
inductive Sl where
  | x | p (R : Rp) | o (O : Op) | b (B : Bw)
inductive Slots (G : Hp) (L0 : List Cell) : L2.St → List Sl → List Cell → Prop
  | nil : Slots G L0 [] [] []
  | x {v σ ρ L} : Slots G L0 σ ρ L → Slots G L0 (v :: σ) (.x :: ρ) L
  | p {R : Rp} {v σ ρ L} : R.p G v → Slots G L0 σ ρ L → Slots G L0 (some v :: σ) (.p R :: ρ) L
  | o {O : Op} {a cs σ ρ L} : O.p G a cs → Slots G L0 σ ρ L → Slots G L0 (some (.ref a) :: σ) (.o O :: ρ) (cs ++ L)
  | b {B : Bw} {v σ ρ L} : B.p G L0 v → Slots G L0 σ ρ L → Slots G L0 (some v :: σ) (.b B :: ρ) L
theorem Slots.up {G G' : Hp} {L0 : List Cell} (e : Same G G') : ∀ {σ ρ L}, Slots G L0 σ ρ L → Slots G' L0 σ ρ L
  | _, _, _, .nil => .nil
  | _, _, _, .x s => .x (s.up e)
  | _, _, _, .p h s => .p (Rp.up _ e h) (s.up e)
  | _, _, _, .o h s => .o (Op.up _ e h) (s.up e)
  | _, _, _, .b h s => .b (Bw.up _ e (fun _ z => z) h) (s.up e)
theorem Slots.get_p {G : Hp} {L0 : List Cell} {R : Rp} : ∀ {σ ρ L} {i : Nat}, Slots G L0 σ ρ L → ρ[i]? = some (.p R) → ∃ v, σ[i]? = some (some v) ∧ R.p G v
  | _, _, _, _, .nil, h => by simp at h
  | _, _, _, 0, .x _, h => by simp at h
  | _, _, _, 0, .p q _, h => by simp at h; subst h; exact ⟨_, rfl, q⟩
  | _, _, _, 0, .o _ _, h => by simp at h
  | _, _, _, 0, .b _ _, h => by simp at h
  | _, _, _, i + 1, .b _ s, h => s.get_p (i := i) (by simpa using h)
  | _, _, _, i + 1, .x s, h => s.get_p (i := i) (by simpa using h)
  | _, _, _, i + 1, .p _ s, h => s.get_p (i := i) (by simpa using h)
  | _, _, _, i + 1, .o _ s, h => s.get_p (i := i) (by simpa using h)
/-- the slot i is set; what it owned is freed -/
theorem Slots.set_p {G : Hp} {L0 : List Cell} {R : Rp} {v : V} (q : R.p G v) : ∀ {σ ρ L} (i : Nat), Slots G L0 σ ρ L → ∃ C L', L.Perm (C ++ L') ∧ Slots G L0 (σ.set i (some v)) (ρ.set i (.p R)) L'
  | _, _, _, _, .nil => ⟨[], [], by simp, .nil⟩
  | _, _, _, 0, .x s => ⟨[], _, by simp, .p q s⟩
  | _, _, _, 0, .p _ s => ⟨[], _, by simp, .p q s⟩
  | _, _, _, 0, .b _ s => ⟨[], _, by simp, .p q s⟩
  | _, _, _, i + 1, .b h s => by
    obtain ⟨C, L', e, s'⟩ := s.set_p q i
    exact ⟨C, L', e, .b h s'⟩
  | _, _, _, 0, .o (cs := cs) _ s => ⟨cs, _, by simp, .p q s⟩
  | _, _, _, i + 1, .x s => by
    obtain ⟨C, L', e, s'⟩ := s.set_p q i
    exact ⟨C, L', e, .x s'⟩
  | _, _, _, i + 1, .p h s => by
    obtain ⟨C, L', e, s'⟩ := s.set_p q i
    exact ⟨C, L', e, .p h s'⟩
  | _, _, _, i + 1, .o (cs := cs) h s => by
    obtain ⟨C, L', e, s'⟩ := s.set_p q i
    refine ⟨C, cs ++ L', ?_, .o h s'⟩
    refine (e.append_left cs).trans ?_
    rw [← List.append_assoc, ← List.append_assoc]
    exact (List.perm_append_comm).append_right L'
theorem Slots.set_o {G : Hp} {L0 : List Cell} {O : Op} {a : Addr} {cs : List Cell} (q : O.p G a cs) : ∀ {σ ρ L} (i : Nat), i < σ.length → Slots G L0 σ ρ L → ∃ C L', L.Perm (C ++ L') ∧ ∃ L'', Slots G L0 (σ.set i (some (.ref a))) (ρ.set i (.o O)) L'' ∧ L''.Perm (cs ++ L')
  | _, _, _, _, h, .nil => by simp at h
  | _, _, _, 0, _, .x s => ⟨[], _, by simp, _, .o q s, .refl _⟩
  | _, _, _, 0, _, .p _ s => ⟨[], _, by simp, _, .o q s, .refl _⟩
  | _, _, _, 0, _, .b _ s => ⟨[], _, by simp, _, .o q s, .refl _⟩
  | _, _, _, i + 1, h, .b h1 s => by
    obtain ⟨C, L', e, L'', s', e'⟩ := s.set_o q i (by simpa using h)
    exact ⟨C, L', e, L'', .b h1 s', e'⟩
  | _, _, _, 0, _, .o (cs := ds) _ s => ⟨ds, _, by simp, _, .o q s, .refl _⟩
  | _, _, _, i + 1, h, .x s => by
    obtain ⟨C, L', e, L'', s', e'⟩ := s.set_o q i (by simpa using h)
    exact ⟨C, L', e, L'', .x s', e'⟩
  | _, _, _, i + 1, h, .p h1 s => by
    obtain ⟨C, L', e, L'', s', e'⟩ := s.set_o q i (by simpa using h)
    exact ⟨C, L', e, L'', .p h1 s', e'⟩
  | _, _, _, i + 1, h, .o (cs := ds) h1 s => by
    obtain ⟨C, L', e, L'', s', e'⟩ := s.set_o q i (by simpa using h)
    refine ⟨C, ds ++ L', ?_, ds ++ L'', .o h1 s', ?_⟩
    · refine (e.append_left ds).trans ?_
      rw [← List.append_assoc, ← List.append_assoc]
      exact (List.perm_append_comm).append_right L'
    · refine (e'.append_left ds).trans ?_
      rw [← List.append_assoc, ← List.append_assoc]
      exact (List.perm_append_comm).append_right L'
/-- the owned thing at slot i, and how it may change -/
theorem Slots.get_o {G : Hp} {L0 : List Cell} {O : Op} : ∀ {σ ρ L} {i : Nat}, Slots G L0 σ ρ L → ρ[i]? = some (.o O) → ∃ a cs M, σ[i]? = some (some (.ref a)) ∧ O.p G a cs ∧ L.Perm (cs ++ M) ∧
    (∀ (O' : Op) (cs' : List Cell), O'.p G a cs' → ∃ L', Slots G L0 σ (ρ.set i (.o O')) L' ∧ L'.Perm (cs' ++ M)) ∧ (∀ (G' : Hp) (R : Rp), Same G G' → R.p G' (.ref a) → Slots G' L0 σ (ρ.set i (.p R)) M)
  | _, _, _, _, .nil, h => by simp at h
  | _, _, _, 0, .x _, h => by simp at h
  | _, _, _, 0, .p _ _, h => by simp at h
  | _, _, _, 0, .b _ _, h => by simp at h
  | _, _, _, i + 1, .b q s, h => by
    obtain ⟨a, cs, M, h1, h2, h3, h4, h5⟩ := s.get_o (i := i) (by simpa using h)
    exact ⟨a, cs, M, by simpa using h1, h2, h3, fun O' cs' q' => by
      obtain ⟨L', s', e⟩ := h4 O' cs' q'
      exact ⟨L', .b q s', e⟩, fun G' R e r => .b (Bw.up _ e (fun _ z => z) q) (h5 G' R e r)⟩
  | _, _, _, 0, .o (a := a) (cs := cs) (L := M) q s, h => by
    simp at h; subst h
    exact ⟨a, cs, M, rfl, q, .refl _, fun O' cs' q' => ⟨_, .o q' s, .refl _⟩, fun G' R e r => .p r (s.up e)⟩
  | _, _, _, i + 1, .x s, h => by
    obtain ⟨a, cs, M, h1, h2, h3, h4, h5⟩ := s.get_o (i := i) (by simpa using h)
    exact ⟨a, cs, M, by simpa using h1, h2, h3, fun O' cs' q' => by
      obtain ⟨L', s', e⟩ := h4 O' cs' q'
      exact ⟨L', .x s', e⟩, fun G' R e r => .x (h5 G' R e r)⟩
  | _, _, _, i + 1, .p q s, h => by
    obtain ⟨a, cs, M, h1, h2, h3, h4, h5⟩ := s.get_o (i := i) (by simpa using h)
    exact ⟨a, cs, M, by simpa using h1, h2, h3, fun O' cs' q' => by
      obtain ⟨L', s', e⟩ := h4 O' cs' q'
      exact ⟨L', .p q s', e⟩, fun G' R e r => .p (Rp.up _ e q) (h5 G' R e r)⟩
  | _, _, _, i + 1, .o (cs := ds) q s, h => by
    obtain ⟨a, cs, M, h1, h2, h3, h4, h5⟩ := s.get_o (i := i) (by simpa using h)
    refine ⟨a, cs, ds ++ M, by simpa using h1, h2, ?_, fun O' cs' q' => ?_, fun G' R e r => .o (Op.up _ e q) (h5 G' R e r)⟩
    · refine (h3.append_left ds).trans ?_
      rw [← List.append_assoc, ← List.append_assoc]
      exact (List.perm_append_comm).append_right M
    · obtain ⟨L', s', e⟩ := h4 O' cs' q'
      refine ⟨ds ++ L', .o q s', ?_⟩
      refine (e.append_left ds).trans ?_
      rw [← List.append_assoc, ← List.append_assoc]
      exact (List.perm_append_comm).append_right M
theorem Slots.len {G : Hp} {L0 : List Cell} : ∀ {σ ρ L}, Slots G L0 σ ρ L → σ.length = ρ.length
  | _, _, _, .nil => rfl
  | _, _, _, .x s => by simp [s.len]
  | _, _, _, .p _ s => by simp [s.len]
  | _, _, _, .o _ s => by simp [s.len]
  | _, _, _, .b _ s => by simp [s.len]

theorem Slots.get_b {G : Hp} {L0 : List Cell} {B : Bw} : ∀ {σ ρ L} {i : Nat}, Slots G L0 σ ρ L → ρ[i]? = some (.b B) → ∃ v, σ[i]? = some (some v) ∧ B.p G L0 v
  | _, _, _, _, .nil, h => by simp at h
  | _, _, _, 0, .x _, h => by simp at h
  | _, _, _, 0, .p q _, h => by simp at h
  | _, _, _, 0, .o _ _, h => by simp at h
  | _, _, _, 0, .b q _, h => by simp at h; subst h; exact ⟨_, rfl, q⟩
  | _, _, _, i + 1, .b _ s, h => s.get_b (i := i) (by simpa using h)
  | _, _, _, i + 1, .x s, h => s.get_b (i := i) (by simpa using h)
  | _, _, _, i + 1, .p _ s, h => s.get_b (i := i) (by simpa using h)
  | _, _, _, i + 1, .o _ s, h => s.get_b (i := i) (by simpa using h)
/-- less is told -/
inductive Wk : List Sl → List Sl → Prop
  | nil : Wk [] []
  | x {s ρ ρ'} : Wk ρ ρ' → Wk (s :: ρ) (.x :: ρ')
  | k {s ρ ρ'} : Wk ρ ρ' → Wk (s :: ρ) (s :: ρ')
theorem Wk.refl : ∀ ρ, Wk ρ ρ
  | [] => .nil
  | _ :: ρ => .k (Wk.refl ρ)
theorem Slots.weak {G : Hp} {L0 : List Cell} : ∀ {σ ρ ρ' L}, Slots G L0 σ ρ L → Wk ρ ρ' → ∃ C L', L.Perm (C ++ L') ∧ Slots G L0 σ ρ' L'
  | _, _, _, _, .nil, .nil => ⟨[], [], by simp, .nil⟩
  | _, _, _, _, .x s, .x w | _, _, _, _, .x s, .k w => by
    obtain ⟨C, L', e, s'⟩ := s.weak w
    exact ⟨C, L', e, .x s'⟩
  | _, _, _, _, .p h s, .x w | _, _, _, _, .b h s, .x w => by
    obtain ⟨C, L', e, s'⟩ := s.weak w
    exact ⟨C, L', e, .x s'⟩
  | _, _, _, _, .p h s, .k w => by
    obtain ⟨C, L', e, s'⟩ := s.weak w
    exact ⟨C, L', e, .p h s'⟩
  | _, _, _, _, .b h s, .k w => by
    obtain ⟨C, L', e, s'⟩ := s.weak w
    exact ⟨C, L', e, .b h s'⟩
  | _, _, _, _, .o (cs := cs) h s, .x w => by
    obtain ⟨C, L', e, s'⟩ := s.weak w
    refine ⟨cs ++ C, L', ?_, .x s'⟩
    rw [List.append_assoc]
    exact e.append_left cs
  | _, _, _, _, .o (cs := cs) h s, .k w => by
    obtain ⟨C, L', e, s'⟩ := s.weak w
    exact ⟨C, cs ++ L', (e.append_left cs).trans (perm_swap _ _ _), .o h s'⟩

/-- the state: G, the slots, the callers' cells L0 -/
def Stt (G : Hp) (ρ : List Sl) (σ : L2.St) (L0 : List Cell) (H : Hp) : Prop := ∃ L, Slots G L0 σ ρ L ∧ Lay G (L ++ L0) H
section
variable {G H : Hp} {ρ : List Sl} {σ : L2.St} {L0 : List Cell}
theorem Stt.same (s : Stt G ρ σ L0 H) : Same G H := by
  obtain ⟨L, _, l⟩ := s
  exact l.same
theorem Stt.len (s : Stt G ρ σ L0 H) : σ.length = ρ.length := by
  obtain ⟨L, h, _⟩ := s
  exact h.len
theorem Stt.get_p (s : Stt G ρ σ L0 H) {R : Rp} {i : Nat} (h : ρ[i]? = some (.p R)) : ∃ v, σ[i]? = some (some v) ∧ R.p G v := by
  obtain ⟨L, q, _⟩ := s
  exact q.get_p h
theorem Stt.get_b (s : Stt G ρ σ L0 H) {B : Bw} {i : Nat} (h : ρ[i]? = some (.b B)) : ∃ v, σ[i]? = some (some v) ∧ B.p G L0 v := by
  obtain ⟨L, q, _⟩ := s
  exact q.get_b h
theorem Stt.weak (s : Stt G ρ σ L0 H) {ρ' : List Sl} (w : Wk ρ ρ') : ∃ G', Same G G' ∧ Stt G' ρ' σ L0 H := by
  obtain ⟨L, q, l⟩ := s
  obtain ⟨C, L', e, q'⟩ := q.weak w
  have l' : Lay G (C ++ (L' ++ L0)) H := by
    rw [← List.append_assoc]
    exact l.perm (e.append_right L0)
  obtain ⟨G', e', l'', _⟩ := l'.freezeAll
  exact ⟨G', e', L', q'.up e', l''⟩
theorem Stt.fin (s : Stt G ρ σ L0 H) : ∃ G', Same G G' ∧ Lay G' L0 H := by
  obtain ⟨L, q, l⟩ := s
  obtain ⟨G', e', l'', _⟩ := l.freezeAll
  exact ⟨G', e', l''⟩
theorem Stt.grow (s : Stt G ρ σ L0 H) {p : Addr} {o : HO} (h : H p = none) : Same G (upd G p o) ∧ Stt (upd G p o) ρ σ L0 (upd H p o) := by
  obtain ⟨L, q, l⟩ := s
  have e := same_upd (o := o) (l.freshG h)
  exact ⟨e, L, q.up e, l.grow h⟩
theorem Stt.set_p (s : Stt G ρ σ L0 H) {R : Rp} {v : V} (r : R.p G v) (i : Nat) : ∃ G', Same G G' ∧ Stt G' (ρ.set i (.p R)) (σ.set i (some v)) L0 H := by
  obtain ⟨L, q, l⟩ := s
  obtain ⟨C, L', e, q'⟩ := q.set_p r i
  have l' : Lay G (C ++ (L' ++ L0)) H := by
    rw [← List.append_assoc]
    exact l.perm (e.append_right L0)
  obtain ⟨G', e', l'', _⟩ := l'.freezeAll
  exact ⟨G', e', L', q'.up e', l''⟩
/-- a new owned thing, its cells already laid beside -/
theorem Stt.set_o (s : Stt G ρ σ L0 H) {O : Op} {a : Addr} {cs : List Cell} {H' : Hp} (r : O.p G a cs) (i : Nat) (hi : i < ρ.length) (hl : ∀ M, Lay G M H → Lay G (cs ++ M) H') : ∃ G', Same G G' ∧ Stt G' (ρ.set i (.o O)) (σ.set i (some (.ref a))) L0 H' := by
  obtain ⟨L, q, l⟩ := s
  obtain ⟨C, L', e, L'', q', e'⟩ := q.set_o r i (by rw [q.len]; exact hi)
  have l1 : Lay G (cs ++ (C ++ (L' ++ L0))) H' := hl _ (by
    rw [← List.append_assoc]
    exact l.perm (e.append_right L0))
  have l2 : Lay G (C ++ (L'' ++ L0)) H' := l1.perm (by
    refine (perm_swap _ _ _).trans (List.Perm.append_left C ?_)
    rw [← List.append_assoc]
    exact (e'.symm).append_right L0)
  obtain ⟨G', e3, l3, _⟩ := l2.freezeAll
  exact ⟨G', e3, L'', q'.up e3, l3⟩
theorem Stt.get_o (s : Stt G ρ σ L0 H) {O : Op} {i : Nat} (h : ρ[i]? = some (.o O)) : ∃ a cs, σ[i]? = some (some (.ref a)) ∧ O.p G a cs ∧ (∀ c ∈ cs, H c.1 = some c.2) ∧
    (∀ (O' : Op) (cs' : List Cell) (H' : Hp), O'.p G a cs' → (∀ M, Lay G (cs ++ M) H → Lay G (cs' ++ M) H') → Stt G (ρ.set i (.o O')) σ L0 H') ∧
    (∀ (R : Rp), (∀ G', Same G G' → (∀ c ∈ cs, G' c.1 = some c.2) → R.p G' (.ref a)) → ∃ G', Same G G' ∧ Stt G' (ρ.set i (.p R)) σ L0 H) := by
  obtain ⟨L, q, l⟩ := s
  obtain ⟨a, cs, M, h1, h2, h3, h4, h5⟩ := q.get_o h
  have l1 : Lay G (cs ++ (M ++ L0)) H := by
    rw [← List.append_assoc]
    exact l.perm (h3.append_right L0)
  refine ⟨a, cs, h1, h2, fun c hc => (l1.on c (List.mem_append_left _ hc)).1, fun O' cs' H' q' hl => ?_, fun R hR => ?_⟩
  · obtain ⟨L', s', e⟩ := h4 O' cs' q'
    refine ⟨L', s', (hl _ l1).perm ?_⟩
    rw [← List.append_assoc]
    exact (e.symm).append_right L0
  · obtain ⟨G', e', l'', k⟩ := l1.freezeAll
    exact ⟨G', e', M, h5 G' R e' (hR G' e' k), l''⟩
end
end Z

set_option Elab.async false
set_option linter.all false
set_option maxRecDepth 100000
set_option maxHeartbeats 2000000
/-! Zb: data, what an expression, a test, a statement comes to. -/
namespace Z
open PySem PySem.Spec PyProof.Rows L2
section
variable {K : PySem.W.Frag}
theorem sqT_up {H H' : Hp} {a : Addr} {xs : List V} (e : Same H H') (h : SqT K H a xs) : SqT K H' a xs := by
  rcases h with (h | ⟨o, h⟩) | h
  · exact .inl (.inl (e _ _ h))
  · exact .inl (.inr ⟨o, e _ _ h⟩)
  · exact .inr h
mutual
/-- data at a value: every list and tuple stands in H -/
inductive Dq (H : Hp) : V → PyData → Prop
  | non : Dq H .non .none
  | bl (b : Bool) : Dq H (.bl b) (.bool b)
  | int (i : Int) : Dq H (.int i) (.int i)
  | str (x : Str) : Dq H (.str x) (.str x)
  | lst {a : Addr} {xs : List V} {ds : List PyData} : H a = some (.lst xs) → DqAll H xs ds → Dq H (.ref a) (.list ds)
  | tup {a : Addr} {xs : List V} {ds : List PyData} : H a = some (.tup xs) → DqAll H xs ds → Dq H (.ref a) (.tuple ds)
inductive DqAll (H : Hp) : List V → List PyData → Prop
  | nil : DqAll H [] []
  | cons {v : V} {vs : List V} {d : PyData} {ds : List PyData} : Dq H v d → DqAll H vs ds → DqAll H (v :: vs) (d :: ds)
end
mutual
theorem dp_up {H H' : Hp} (e : Same H H') : ∀ {v : V} {d : PyData}, Dq H v d → Dq H' v d
  | _, _, .non => .non
  | _, _, .bl b => .bl b
  | _, _, .int i => .int i
  | _, _, .str x => .str x
  | _, _, .lst h a => .lst (e _ _ h) (dpAll_up e a)
  | _, _, .tup h a => .tup (e _ _ h) (dpAll_up e a)
theorem dpAll_up {H H' : Hp} (e : Same H H') : ∀ {vs : List V} {ds : List PyData}, DqAll H vs ds → DqAll H' vs ds
  | _, _, .nil => .nil
  | _, _, .cons h t => .cons (dp_up e h) (dpAll_up e t)
end
mutual
theorem dq_dp {H : Hp} : ∀ {v : V} {d : PyData}, Dq H v d → L2.Dp K H v d
  | _, _, .non => .non
  | _, _, .bl b => .bl b
  | _, _, .int i => .int i
  | _, _, .str x => .str x
  | _, _, .lst h a => .lst (.inl (.inl h)) (dqAll_dp a)
  | _, _, .tup h a => .tup (.inl (.inl h)) (dqAll_dp a)
theorem dqAll_dp {H : Hp} : ∀ {vs : List V} {ds : List PyData}, DqAll H vs ds → L2.DpAll K H vs ds
  | _, _, .nil => .nil
  | _, _, .cons h t => .cons (dq_dp h) (dqAll_dp t)
end
theorem dpAll_len {H : Hp} : ∀ {vs : List V} {ds : List PyData}, DqAll H vs ds → vs.length = ds.length
  | _, _, .nil => rfl
  | _, _, .cons _ t => by simp [dpAll_len t]
theorem dpAll_get {H : Hp} : ∀ {vs : List V} {ds : List PyData} {i : Nat} {d : PyData}, DqAll H vs ds → ds[i]? = some d → ∃ v, vs[i]? = some v ∧ Dq H v d
  | _, _, _, _, .nil, h => by simp at h
  | _, _, 0, _, .cons q _, h => by simp at h; subst h; exact ⟨_, rfl, q⟩
  | _, _, i + 1, _, .cons _ t, h => by simpa using dpAll_get (i := i) t (by simpa using h)
theorem dpAll_get' {H : Hp} : ∀ {vs : List V} {ds : List PyData} {i : Nat} {v : V}, DqAll H vs ds → vs[i]? = some v → ∃ d, ds[i]? = some d ∧ Dq H v d
  | _, _, _, _, .nil, h => by simp at h
  | _, _, 0, _, .cons q _, h => by simp at h; subst h; exact ⟨_, rfl, q⟩
  | _, _, i + 1, _, .cons _ t, h => by simpa using dpAll_get' (i := i) t (by simpa using h)
theorem dpAll_app {H : Hp} : ∀ {vs ws : List V} {ds es : List PyData}, DqAll H vs ds → DqAll H ws es → DqAll H (vs ++ ws) (ds ++ es)
  | _, _, _, _, .nil, s => s
  | _, _, _, _, .cons q t, s => .cons q (dpAll_app t s)
theorem dpAll_take {H : Hp} : ∀ {vs : List V} {ds : List PyData} (n : Nat), DqAll H vs ds → DqAll H (vs.take n) (ds.take n)
  | _, _, 0, _ => .nil
  | _, _, _ + 1, .nil => .nil
  | _, _, n + 1, .cons q t => .cons q (dpAll_take n t)
theorem dpAll_drop {H : Hp} : ∀ {vs : List V} {ds : List PyData} (n : Nat), DqAll H vs ds → DqAll H (vs.drop n) (ds.drop n)
  | _, _, 0, s => s
  | _, _, _ + 1, .nil => .nil
  | _, _, n + 1, .cons _ t => dpAll_drop n t
theorem dpAll_set {H : Hp} {v : V} {d : PyData} (r : Dq H v d) : ∀ {vs : List V} {ds : List PyData} (n : Nat), DqAll H vs ds → DqAll H (vs.set n v) (ds.set n d)
  | _, _, _, .nil => .nil
  | _, _, 0, .cons _ t => .cons r t
  | _, _, n + 1, .cons q t => .cons q (dpAll_set r n t)
theorem dpAll_rep {H : Hp} : ∀ {vs : List V} {ds : List PyData} (n : Nat), DqAll H vs ds → DqAll H (List.replicate n vs).flatten (List.replicate n ds).flatten
  | _, _, 0, _ => .nil
  | _, _, n + 1, s => by
    rw [List.replicate_succ, List.replicate_succ, List.flatten_cons, List.flatten_cons]
    exact dpAll_app s (dpAll_rep n s)
theorem dpAll_ints {H : Hp} : ∀ {vs : List V} {ns : List Int}, DqAll H vs (ns.map PyData.int) → vs = ns.map V.int
  | [], [], .nil => rfl
  | _ :: _, n :: ns, .cons q t => by
    cases q
    rw [dpAll_ints t]; rfl
theorem dpAll_bools {H : Hp} : ∀ {vs : List V} {ns : List Bool}, DqAll H vs (ns.map PyData.bool) → vs = ns.map V.bl
  | [], [], .nil => rfl
  | _ :: _, n :: ns, .cons q t => by
    cases q
    rw [dpAll_bools t]; rfl
theorem dpAll_of_ints {H : Hp} : ∀ (ns : List Int), DqAll H (ns.map V.int) (ns.map PyData.int)
  | [] => .nil
  | n :: ns => .cons (.int n) (dpAll_of_ints ns)
end
/-- data that stays -/
def dat (d : PyData) : Rp := ⟨fun H v => Dq H v d, fun e h => dp_up e h⟩
/-- a list, wherever it stands, of data that stays -/
def bL (ds : List PyData) : Bw := ⟨fun G L v => ∃ a vs, v = .ref a ∧ (G a = some (.lst vs) ∨ (a, HO.lst vs) ∈ L) ∧ DqAll G vs ds, fun e l h => by
  obtain ⟨a, vs, r, q, d⟩ := h
  exact ⟨a, vs, r, q.elim (fun z => .inl (e _ _ z)) (fun z => .inr (l _ z)), dpAll_up e d⟩⟩
/-- an owned list of data that stays -/
def oL (ds : List PyData) : Op := ⟨fun G a cs => ∃ vs, cs = [(a, HO.lst vs)] ∧ DqAll G vs ds, fun e h => by
  obtain ⟨vs, r, d⟩ := h
  exact ⟨vs, r, dpAll_up e d⟩⟩
abbrev dI (i : Int) : Rp := dat (.int i)
abbrev dB (b : Bool) : Rp := dat (.bool b)

/-! ### expressions -/
/-- the value has B, now and as long as the slots stand -/
structure Ev (te : TE) (ρ : List Sl) (B : Bw) : Prop where
  run : ∀ {G : Hp} {σ : L2.St} {L0 : List Cell} {H : Hp} (Q : VK), Stt G ρ σ L0 H →
    (∀ G' H' v, Same G G' → Stt G' ρ σ L0 H' → (∀ G'' L'' H'', Same G' G'' → Slots G'' L0 σ ρ L'' → Lay G'' (L'' ++ L0) H'' → B.p G'' (L'' ++ L0) v) → Q v H') → te σ H Q
/-- a new list -/
structure EvN (te : TE) (ρ : List Sl) (ds : List PyData) : Prop where
  run : ∀ {G : Hp} {σ : L2.St} {L0 : List Cell} {H : Hp} (Q : VK), Stt G ρ σ L0 H →
    (∀ G' H' p vs, Same G G' → Stt G' ρ σ L0 H' → H' p = none → DqAll G' vs ds → Q (.ref p) (upd H' p (.lst vs))) → te σ H Q
structure EvT (tt : TT) (ρ : List Sl) (b : Bool) : Prop where
  run : ∀ {G : Hp} {σ : L2.St} {L0 : List Cell} {H : Hp} (Q : Bool → Hp → Prop), Stt G ρ σ L0 H →
    (∀ G' H', Same G G' → Stt G' ρ σ L0 H' → Q b H') → tt σ H Q
inductive AllB (G : Hp) (L : List Cell) : List V → List Bw → Prop
  | nil : AllB G L [] []
  | cons {v vs} {B : Bw} {Bs} : B.p G L v → AllB G L vs Bs → AllB G L (v :: vs) (B :: Bs)
structure EvA (ta : TA) (ρ : List Sl) (Bs : List Bw) : Prop where
  run : ∀ {G : Hp} {σ : L2.St} {L0 : List Cell} {H : Hp} (Q : List V → Hp → Prop), Stt G ρ σ L0 H →
    (∀ G' H' vs, Same G G' → Stt G' ρ σ L0 H' → (∀ G'' L'' H'', Same G' G'' → Slots G'' L0 σ ρ L'' → Lay G'' (L'' ++ L0) H'' → AllB G'' (L'' ++ L0) vs Bs) → Q vs H') → ta σ H Q
section
variable {K : PySem.W.Frag} {ρ : List Sl} {te ta tb : TE} {R : Rp} {B Ba Bb : Bw} {i j : Int}
/-- with pure results the wish is simple -/
theorem Ev.pure (h : ∀ {G : Hp} {σ : L2.St} {L0 : List Cell} {H : Hp} (Q : VK), Stt G ρ σ L0 H → (∀ G' H' v, Same G G' → Stt G' ρ σ L0 H' → R.p G' v → Q v H') → te σ H Q) : Ev te ρ (pu R) :=
  ⟨fun Q s q => h Q s fun G' H' v e s' r => q G' H' v e s' fun G'' L'' H'' e' _ _ => R.up e' r⟩
theorem Ev.at (h : Ev te ρ B) {G : Hp} {σ : L2.St} {L0 : List Cell} {H : Hp} {Q : VK} (s : Stt G ρ σ L0 H) (q : ∀ G' H' v L, Same G G' → Stt G' ρ σ L0 H' → Slots G' L0 σ ρ L → Lay G' (L ++ L0) H' → B.p G' (L ++ L0) v → Q v H') : te σ H Q :=
  h.run Q s fun G' H' v e s' r => by
    obtain ⟨L, a, b⟩ := id s'
    exact q G' H' v L e s' a b (r G' L H' (Same.refl _) a b)
theorem Ev.atp (h : Ev te ρ (pu R)) {G : Hp} {σ : L2.St} {L0 : List Cell} {H : Hp} {Q : VK} (s : Stt G ρ σ L0 H) (q : ∀ G' H' v, Same G G' → Stt G' ρ σ L0 H' → R.p G' v → Q v H') : te σ H Q :=
  h.at s fun G' H' v _ e s' _ _ r => q G' H' v e s' r
theorem Ev.imp {B' : Bw} (h : Ev te ρ B) (k : ∀ G L v, B.p G L v → B'.p G L v) : Ev te ρ B' := ⟨fun Q s q => h.run Q s fun G' H' v e s' r => q G' H' v e s' fun G'' L'' H'' e' a b => k _ _ _ (r G'' L'' H'' e' a b)⟩
theorem Ev.is {B' : Bw} (h : Ev te ρ B) (k : B = B') : Ev te ρ B' := by rw [← k]; exact h
theorem ev_var {i : Nat} (h : ρ[i]? = some (.p R)) : Ev (tVar i) ρ (pu R) := by
  refine Ev.pure fun Q s q => ?_
  obtain ⟨v, e, r⟩ := s.get_p h
  exact ⟨v, e, q _ _ v (Same.refl _) s r⟩
theorem ev_b {i : Nat} (h : ρ[i]? = some (.b B)) : Ev (tVar i) ρ B := by
  refine ⟨fun Q s q => ?_⟩
  obtain ⟨v, e, r⟩ := s.get_b h
  exact ⟨v, e, q _ _ v (Same.refl _) s fun G'' L'' H'' e' a b => B.up e' (fun c hc => List.mem_append_right _ hc) r⟩
/-- an owned list, read -/
theorem ev_o {ds : List PyData} {i : Nat} (h : ρ[i]? = some (.o (oL ds))) : Ev (tVar i) ρ (bL ds) := by
  refine ⟨fun Q s q => ?_⟩
  obtain ⟨a, cs, e, _⟩ := s.get_o h
  refine ⟨_, e, q _ _ _ (Same.refl _) s fun G'' L'' H'' e' sl la => ?_⟩
  obtain ⟨a', cs', M, e1, ⟨vs, e2, d⟩, pm, _⟩ := sl.get_o h
  rw [e] at e1
  injection e1 with e1; injection e1 with e1; injection e1 with e1
  subst e1 e2
  exact ⟨a, vs, rfl, .inr (List.mem_append_left _ (pm.mem_iff.mpr (List.mem_append_left _ (List.mem_cons_self ..)))), d⟩
theorem bl_of_dat {ds : List PyData} : ∀ G L v, (pu (dat (.list ds))).p G L v → (bL ds).p G L v := fun G L v h => by
  have h : Dq G v (.list ds) := h
  cases h with
  | lst a b => exact ⟨_, _, rfl, .inl a, b⟩
theorem Ev.bl {ds : List PyData} (h : Ev te ρ (pu (dat (.list ds)))) : Ev te ρ (bL ds) := h.imp bl_of_dat
theorem ev_int : Ev (tC (.int i)) ρ (pu (dI i)) := Ev.pure fun Q s q => q _ _ _ (Same.refl _) s (Dq.int i)
theorem ev_bl {b : Bool} : Ev (tC (.bl b)) ρ (pu (dB b)) := Ev.pure fun Q s q => q _ _ _ (Same.refl _) s (Dq.bl b)
theorem ev_non : Ev (tC .non) ρ (pu (dat .none)) := Ev.pure fun Q s q => q _ _ _ (Same.refl _) s Dq.non
theorem ev_str {x : Str} : Ev (tC (.str x)) ρ (pu (dat (.str x))) := Ev.pure fun Q s q => q _ _ _ (Same.refl _) s (Dq.str x)
theorem EvN.ev {ds : List PyData} (h : EvN te ρ ds) : Ev te ρ (pu (dat (.list ds))) := Ev.pure fun Q s q => h.run Q s fun G' H' p vs e s' hp d => by
  have g := s'.grow (o := .lst vs) hp
  exact q _ _ _ (e.trans g.1) g.2 (Dq.lst upd_same (dpAll_up g.1 d))
theorem EvN.is {ds ds' : List PyData} (h : EvN te ρ ds) (e : ds = ds') : EvN te ρ ds' := by rw [← e]; exact h
/-- an operation on two values, that makes nothing -/
def Op2 (r : R2) (Ba Bb : Bw) (R : Rp) : Prop := ∀ (G H : Hp) (L : List Cell) (x y : V) (Q : VK), Lay G L H → Ba.p G L x → Bb.p G L y → (∀ v, R.p G v → Q v H) → r x y H Q
theorem ev_op {r : R2} (ha : Ev ta ρ Ba) (hb : Ev tb ρ Bb) (h : Op2 r Ba Bb R) : Ev (tOp r ta tb) ρ (pu R) := Ev.pure fun Q s q =>
  ha.run _ s fun G1 H1 x e1 s1 rx => hb.run _ s1 fun G2 H2 y e2 s2 ry => by
    obtain ⟨L, a, b⟩ := id s2
    exact h G2 H2 _ x y Q b (rx G2 L H2 e2 a b) (ry G2 L H2 (Same.refl _) a b) fun v rv => q G2 H2 v (e1.trans e2) s2 rv
/-- .. that makes a new list -/
def Op2N (r : R2) (Ba Bb : Bw) (ds : List PyData) : Prop := ∀ (G H : Hp) (L : List Cell) (x y : V) (Q : VK), Lay G L H → Ba.p G L x → Bb.p G L y → (∀ p vs, H p = none → DqAll G vs ds → Q (.ref p) (upd H p (.lst vs))) → r x y H Q
theorem ev_opN {r : R2} {ds : List PyData} (ha : Ev ta ρ Ba) (hb : Ev tb ρ Bb) (h : Op2N r Ba Bb ds) : EvN (tOp r ta tb) ρ ds := ⟨fun Q s q =>
  ha.run _ s fun G1 H1 x e1 s1 rx => hb.run _ s1 fun G2 H2 y e2 s2 ry => by
    obtain ⟨L, a, b⟩ := id s2
    exact h G2 H2 _ x y Q b (rx G2 L H2 e2 a b) (ry G2 L H2 (Same.refl _) a b) fun p vs hp d => q G2 H2 p vs (e1.trans e2) s2 hp d⟩
theorem o_int0 {g : Int → Int → Int} : Op2 (rI0 fun i j => .int (g i j)) (pu (dI i)) (pu (dI j)) (dI (g i j)) := fun G H L x y Q _ hx hy q => by
  cases hx; cases hy
  exact ⟨i, j, rfl, rfl, q _ (Dq.int _)⟩
theorem o_bool0 {g : Int → Int → Bool} : Op2 (rI0 fun i j => .bl (g i j)) (pu (dI i)) (pu (dI j)) (dB (g i j)) := fun G H L x y Q _ hx hy q => by
  cases hx; cases hy
  exact ⟨i, j, rfl, rfl, q _ (Dq.bl _)⟩
theorem o_intC {C : Int → Int → Prop} {g : Int → Int → Int} (hc : C i j) : Op2 (rI C fun i j => .int (g i j)) (pu (dI i)) (pu (dI j)) (dI (g i j)) := fun G H L x y Q _ hx hy q => by
  cases hx; cases hy
  exact ⟨i, j, rfl, rfl, hc, q _ (Dq.int _)⟩
theorem o_eqI : Op2 rEq (pu (dI i)) (pu (dI j)) (dB (decide (i = j))) := fun G H L x y Q _ hx hy q => by
  cases hx; cases hy
  refine ⟨rfl, q _ ?_⟩
  rw [show decide (V.int i = V.int j) = decide (i = j) by simp]
  exact Dq.bl _
theorem o_neI : Op2 rNe (pu (dI i)) (pu (dI j)) (dB (!decide (i = j))) := fun G H L x y Q _ hx hy q => by
  cases hx; cases hy
  refine ⟨rfl, q _ ?_⟩
  rw [show decide (V.int i = V.int j) = decide (i = j) by simp]
  exact Dq.bl _
theorem o_eqD {d e : PyData} (hd : SeqAt.shaped d = true) (he : SeqAt.shaped e = true) : Op2 (rEqD K) (pu (dat d)) (pu (dat e)) (dB (PyData.eqv d e)) := fun G H L x y Q l hx hy q =>
  ⟨d, e, dq_dp (dp_up l.same hx), dq_dp (dp_up l.same hy), hd, he, q _ (Dq.bl _)⟩
theorem o_neD {d e : PyData} (hd : SeqAt.shaped d = true) (he : SeqAt.shaped e = true) : Op2 (rNeD K) (pu (dat d)) (pu (dat e)) (dB (!PyData.eqv d e)) := fun G H L x y Q l hx hy q =>
  ⟨d, e, dq_dp (dp_up l.same hx), dq_dp (dp_up l.same hy), hd, he, q _ (Dq.bl _)⟩
theorem bl_sq {G H : Hp} {L : List Cell} {ds : List PyData} {v : V} (l : Lay G L H) (h : (bL ds).p G L v) : ∃ a vs, v = .ref a ∧ H a = some (.lst vs) ∧ DqAll G vs ds := by
  obtain ⟨a, vs, r, q, d⟩ := h
  exact ⟨a, vs, r, q.elim (fun z => l.same _ _ z) (fun z => (l.on _ z).1), d⟩
theorem atI_all {G : Hp} {vs : List V} {ds : List PyData} {d : PyData} (h : DqAll G vs ds) (e : atI ds i = some d) : ∃ v, atI vs i = some v ∧ Dq G v d := by
  unfold atI at e ⊢
  rw [dpAll_len h]
  cases q : ixN ds.length i with
  | none => rw [q] at e; cases e
  | some k =>
    rw [q] at e
    exact dpAll_get h e
theorem o_ixL {ds : List PyData} {d : PyData} (e : atI ds i = some d) : Op2 (rIxL K) (bL ds) (pu (dI i)) (dat d) := fun G H L x y Q l hx hy q => by
  obtain ⟨a, vs, r, h, dd⟩ := bl_sq l hx
  cases hy
  obtain ⟨v, hv, dv⟩ := atI_all dd e
  exact ⟨a, vs, i, v, r, rfl, .inl (.inl h), hv, q v dv⟩
theorem o_ixT {ds : List PyData} {d : PyData} (e : atI ds i = some d) : Op2 (rIxT K) (pu (dat (.tuple ds))) (pu (dI i)) (dat d) := fun G H L x y Q l hx hy q => by
  have hx : Dq G x (.tuple ds) := hx
  cases hx with
  | tup h dd =>
    cases hy
    obtain ⟨v, hv, dv⟩ := atI_all dd e
    exact ⟨_, _, i, v, rfl, rfl, .inl (.inl (l.same _ _ h)), hv, q v dv⟩
/-- a one-place operation -/
theorem ev_neg (ha : Ev ta ρ (pu (dI i))) : Ev (tUn (rU fun i => .int (-i)) ta) ρ (pu (dI (-i))) := Ev.pure fun Q s q =>
  ha.atp s fun G' H' v e s' r => by
    cases r
    exact ⟨i, rfl, q _ _ _ e s' (Dq.int _)⟩
/-! tests -/
theorem et_test {b : Bool} (h : Ev te ρ (pu (dB b))) : EvT (tTest te) ρ b := ⟨fun Q s q => h.atp s fun G' H' v e s' r => by
  cases r
  exact ⟨b, rfl, q _ _ e s'⟩⟩
theorem et_B {b : Bool} (h : Ev te ρ (pu (dB b))) : EvT (tB te) ρ b := ⟨fun Q s q => h.atp s fun G' H' v e s' r => by
  cases r
  exact ⟨b, rfl, q _ _ e s'⟩⟩
theorem et_and {t u : TT} {a b : Bool} (h1 : EvT t ρ a) (h2 : a = true → EvT u ρ b) : EvT (tAnd t u) ρ (a && b) := ⟨fun Q s q => h1.run _ s fun G1 H1 e1 s1 => by
  cases a with
  | true =>
    show u _ _ Q
    exact (h2 rfl).run Q s1 fun G2 H2 e2 s2 => q G2 H2 (e1.trans e2) s2
  | false => exact q G1 H1 e1 s1⟩
theorem et_or {t u : TT} {a b : Bool} (h1 : EvT t ρ a) (h2 : a = false → EvT u ρ b) : EvT (tOr t u) ρ (a || b) := ⟨fun Q s q => h1.run _ s fun G1 H1 e1 s1 => by
  cases a with
  | false =>
    show u _ _ Q
    exact (h2 rfl).run Q s1 fun G2 H2 e2 s2 => q G2 H2 (e1.trans e2) s2
  | true => exact q G1 H1 e1 s1⟩
theorem et_not {t : TT} {a : Bool} (h1 : EvT t ρ a) : EvT (tNot t) ρ (!a) := ⟨fun Q s q => h1.run _ s fun G1 H1 e1 s1 => q G1 H1 e1 s1⟩
theorem EvT.is {t : TT} {a b : Bool} (h : EvT t ρ a) (e : a = b) : EvT t ρ b := by rw [← e]; exact h
/-- a < b < c -/
theorem ev_chain {r r' : R2} {tc : TE} {Bc : Bw} {a b : Bool} (ha : Ev ta ρ Ba) (hb : Ev tb ρ Bb) (hc : a = true → Ev tc ρ Bc) (h : Op2 r Ba Bb (dB a)) (h' : a = true → Op2 r' Bb Bc (dB b)) : Ev (tChain r r' ta tb tc) ρ (pu (dB (a && b))) := Ev.pure fun Q s q =>
  ha.run _ s fun G1 H1 x e1 s1 rx => hb.run _ s1 fun G2 H2 y e2 s2 ry => by
    obtain ⟨L, sa, sb⟩ := id s2
    refine h G2 H2 _ x y _ sb (rx G2 L H2 e2 sa sb) (ry G2 L H2 (Same.refl _) sa sb) fun z rz => ?_
    cases rz
    refine ⟨a, rfl, ?_⟩
    cases a with
    | false => exact q G2 H2 _ (e1.trans e2) s2 (Dq.bl _)
    | true =>
      show tc _ _ _
      refine (hc rfl).run _ s2 fun G3 H3 w e3 s3 rw => ?_
      obtain ⟨L3, sa3, sb3⟩ := id s3
      exact h' rfl G3 H3 _ y w Q sb3 (ry G3 L3 H3 e3 sa3 sb3) (rw G3 L3 H3 (Same.refl _) sa3 sb3) fun v rv => q G3 H3 v ((e1.trans e2).trans e3) s3 (by cases rv; exact Dq.bl _)
theorem ev_andV {a b : Bool} (h1 : Ev ta ρ (pu (dB a))) (h2 : a = true → Ev tb ρ (pu (dB b))) : Ev (tAndV ta tb) ρ (pu (dB (a && b))) := Ev.pure fun Q s q => h1.atp s fun G1 H1 v e1 s1 r => by
  cases r
  refine ⟨a, rfl, ?_⟩
  cases a with
  | true => exact (h2 rfl).atp s1 fun G2 H2 v e2 s2 r2 => q G2 H2 v (e1.trans e2) s2 r2
  | false => exact q G1 H1 _ e1 s1 (Dq.bl _)
theorem ev_orV {a b : Bool} (h1 : Ev ta ρ (pu (dB a))) (h2 : a = false → Ev tb ρ (pu (dB b))) : Ev (tOrV ta tb) ρ (pu (dB (a || b))) := Ev.pure fun Q s q => h1.atp s fun G1 H1 v e1 s1 r => by
  cases r
  refine ⟨a, rfl, ?_⟩
  cases a with
  | false => exact (h2 rfl).atp s1 fun G2 H2 v e2 s2 r2 => q G2 H2 v (e1.trans e2) s2 r2
  | true => exact q G1 H1 _ e1 s1 (Dq.bl _)
theorem ev_notV {a : Bool} (h1 : Ev ta ρ (pu (dB a))) : Ev (tNotV ta) ρ (pu (dB (!a))) := Ev.pure fun Q s q => h1.atp s fun G1 H1 v e1 s1 r => by
  cases r
  exact ⟨a, rfl, q G1 H1 _ e1 s1 (Dq.bl _)⟩
theorem ev_if {t : TT} {b : Bool} (h : EvT t ρ b) (h1 : b = true → Ev ta ρ B) (h2 : b = false → Ev tb ρ B) : Ev (tIf t ta tb) ρ B := ⟨fun Q s q => h.run _ s fun G1 H1 e1 s1 => by
  cases b with
  | true => exact (h1 rfl).run Q s1 fun G2 H2 v e2 s2 r2 => q G2 H2 v (e1.trans e2) s2 r2
  | false => exact (h2 rfl).run Q s1 fun G2 H2 v e2 s2 r2 => q G2 H2 v (e1.trans e2) s2 r2⟩
/-! arguments, displays -/
theorem ea_nil : EvA tNil ρ [] := ⟨fun Q s q => q _ _ _ (Same.refl _) s fun _ _ _ _ _ _ => .nil⟩
theorem ea_cons {tr : TA} {Bs : List Bw} (h : Ev te ρ B) (hr : EvA tr ρ Bs) : EvA (tCons te tr) ρ (B :: Bs) := ⟨fun Q s q =>
  h.run _ s fun G1 H1 v e1 s1 r1 => hr.run _ s1 fun G2 H2 vs e2 s2 r2 => q G2 H2 (v :: vs) (e1.trans e2) s2 fun G3 L3 H3 e3 a b => .cons (r1 G3 L3 H3 (e2.trans e3) a b) (r2 G3 L3 H3 e3 a b)⟩
theorem EvA.at {tr : TA} {Bs : List Bw} (h : EvA tr ρ Bs) {G : Hp} {σ : L2.St} {L0 : List Cell} {H : Hp} {Q : List V → Hp → Prop} (s : Stt G ρ σ L0 H)
    (q : ∀ G' H' vs L, Same G G' → Slots G' L0 σ ρ L → Lay G' (L ++ L0) H' → AllB G' (L ++ L0) vs Bs → Q vs H') : tr σ H Q :=
  h.run _ s fun G' H' vs e s' r => by
    obtain ⟨L, a, b⟩ := id s'
    exact q G' H' vs L e a b (r G' L H' (Same.refl _) a b)
theorem allB_dat {G : Hp} {L : List Cell} : ∀ {vs : List V} {ds : List PyData}, AllB G L vs (ds.map fun d => pu (dat d)) → DqAll G vs ds
  | _, [], .nil => .nil
  | _, d :: ds, .cons h t => .cons h (allB_dat t)
theorem ev_tup {ta : TA} {ds : List PyData} (h : EvA ta ρ (ds.map fun d => pu (dat d))) (hl : ds.length ≤ 1000) : Ev (tTup ta) ρ (pu (dat (.tuple ds))) := Ev.pure fun Q s q =>
  h.at s fun G1 H1 vs L e1 a b r => by
    have d := allB_dat r
    refine ⟨by rw [dpAll_len d]; exact Nat.le_of_lt (small1000 hl), fun p hp => ?_⟩
    have g := Stt.grow ⟨L, a, b⟩ (o := .tup vs) hp
    exact q _ _ _ (e1.trans g.1) g.2 (Dq.tup upd_same (dpAll_up g.1 d))
theorem en_lst {ta : TA} {ds : List PyData} (h : EvA ta ρ (ds.map fun d => pu (dat d))) (hl : ds.length ≤ 1000) : EvN (tLst ta) ρ ds := ⟨fun Q s q =>
  h.at s fun G1 H1 vs L e1 a b r => by
    have d := allB_dat r
    exact ⟨by rw [dpAll_len d]; exact Nat.le_of_lt (small1000 hl), fun p hp => q G1 H1 p vs e1 ⟨L, a, b⟩ hp d⟩⟩
/-- a builtin's call -/
def Cl (r : List V → Hp → VK → Prop) (Bs : List Bw) (R : Rp) : Prop := ∀ (G H : Hp) (L : List Cell) (vs : List V) (Q : VK), Lay G L H → AllB G L vs Bs → (∀ v, R.p G v → Q v H) → r vs H Q
theorem ev_cb {r : List V → Hp → VK → Prop} {ta : TA} {Bs : List Bw} (h : EvA ta ρ Bs) (hr : Cl r Bs R) : Ev (tCB r ta) ρ (pu R) := Ev.pure fun Q s q =>
  h.at s fun G1 H1 vs L e1 a b rv => hr G1 H1 _ vs Q b rv fun v r => q G1 H1 v e1 ⟨L, a, b⟩ r
def ClN (r : List V → Hp → VK → Prop) (Bs : List Bw) (ds : List PyData) : Prop := ∀ (G H : Hp) (L : List Cell) (vs : List V) (Q : VK), Lay G L H → AllB G L vs Bs → (∀ p ws, H p = none → DqAll G ws ds → Q (.ref p) (upd H p (.lst ws))) → r vs H Q
theorem en_cb {r : List V → Hp → VK → Prop} {ta : TA} {Bs : List Bw} {ds : List PyData} (h : EvA ta ρ Bs) (hr : ClN r Bs ds) : EvN (tCB r ta) ρ ds := ⟨fun Q s q =>
  h.at s fun G1 H1 vs L e1 a b rv => hr G1 H1 _ vs Q b rv fun p ws hp d => q G1 H1 p ws e1 ⟨L, a, b⟩ hp d⟩
end
end Z

set_option Elab.async false
set_option linter.all false
set_option maxRecDepth 100000
set_option maxHeartbeats 2000000
/-! Zc: statements, targets, loops, comprehensions. -/
namespace Z
open PySem PySem.Spec PyProof.Rows L2
/-! ### what a statement ends in -/
inductive Out where
  | nx (ρ : List Sl) | rt (R : Rp) | ro (O : Op) | bk (ρ : List Sl) | ct (ρ : List Sl) | go (ρ : List Sl) | xc (ρ : List Sl) (C : Addr) (n : Int)
def Nx (N : L2.St → Hp → Prop) (G : Hp) (L0 : List Cell) (ρ : List Sl) : Prop := ∀ G' σ' H', Same G G' → Stt G' ρ σ' L0 H' → N σ' H'
/-- an error's own dict -/
def atF (n : Int) : HO := .xd [(("at" : Str), V.int n)]
def Post (W : WX) (D : Ends) (G : Hp) (L0 : List Cell) : Out → Prop
  | .nx ρ => Nx D.nx G L0 ρ
  | .bk ρ => Nx D.bk G L0 ρ
  | .ct ρ => Nx D.ct G L0 ρ
  | .go ρ => Nx D.nx G L0 ρ ∧ Nx D.ct G L0 ρ
  | .rt R => ∀ G' ρ' σ' H' v, Same G G' → Stt G' ρ' σ' L0 H' → R.p G' v → D.rt v H'
  | .ro O => ∀ G' H' a cs, Same G G' → Lay G' (cs ++ L0) H' → O.p G' a cs → D.rt (.ref a) H'
  | .xc ρ C n => ∀ G' σ' H' d, Same G G' → Stt G' ρ σ' L0 H' → H' d = none → W (.ref C) (some d) σ' (upd H' d (atF n))
theorem Post.mono {W : WX} {D : Ends} {G G1 : Hp} {L0 : List Cell} {o : Out} (e : Same G G1) (h : Post W D G L0 o) : Post W D G1 L0 o := by
  cases o with
  | nx ρ => exact fun G' σ' H' e' s => h G' σ' H' (e.trans e') s
  | bk ρ => exact fun G' σ' H' e' s => h G' σ' H' (e.trans e') s
  | ct ρ => exact fun G' σ' H' e' s => h G' σ' H' (e.trans e') s
  | go ρ => exact ⟨fun G' σ' H' e' s => h.1 G' σ' H' (e.trans e') s, fun G' σ' H' e' s => h.2 G' σ' H' (e.trans e') s⟩
  | rt R => exact fun G' ρ' σ' H' v e' s r => h G' ρ' σ' H' v (e.trans e') s r
  | ro O => exact fun G' H' a cs e' l r => h G' H' a cs (e.trans e') l r
  | xc ρ C n => exact fun G' σ' H' d e' s r => h G' σ' H' d (e.trans e') s r
structure Ex (W : WX) (ts : TS) (ρ : List Sl) (o : Out) : Prop where
  run : ∀ {G : Hp} {σ : L2.St} {L0 : List Cell} {H : Hp} (D : Ends), Stt G ρ σ L0 H → Post W D G L0 o → ts D σ H
/-- storing at a target: what slots it touches, T -/
structure EvG (g : TG) (T : List Nat) (ρ : List Sl) (R : Rp) (ρ' : List Sl) : Prop where
  run : ∀ {G : Hp} {σ : L2.St} {L0 : List Cell} {H : Hp} (v : V) (Q : L2.St → Hp → Prop), Stt G ρ σ L0 H → R.p G v →
    (∀ G' σ' H', Same G G' → Stt G' ρ' σ' L0 H' → (∀ vs, (∀ i ∈ T, i ∈ vs) → wipe σ' vs = wipe σ vs) → Q σ' H') → g v σ H Q
structure EvGs (g : TGs) (T : List Nat) (ρ : List Sl) (ds : List PyData) (ρ' : List Sl) : Prop where
  run : ∀ {G : Hp} {σ : L2.St} {L0 : List Cell} {H : Hp} (vs : List V) (Q : L2.St → Hp → Prop), Stt G ρ σ L0 H → DqAll G vs ds →
    (∀ G' σ' H', Same G G' → Stt G' ρ' σ' L0 H' → (∀ vs, (∀ i ∈ T, i ∈ vs) → wipe σ' vs = wipe σ vs) → Q σ' H') → g vs σ H Q
theorem wipe_get (σ : L2.St) (j : Nat) : ∀ vs : List Nat, (wipe σ vs)[j]? = if j ∈ vs then (σ[j]?).map (fun _ => none) else σ[j]?
  | [] => by simp [wipe]
  | v :: vs => by
    show ((wipe σ vs).set v none)[j]? = _
    rw [List.getElem?_set, wipe_length, wipe_get σ j vs]
    by_cases hv : v = j
    · subst hv
      rw [if_pos rfl, if_pos (List.mem_cons_self ..)]
      by_cases hl : v < σ.length
      · rw [if_pos hl, List.getElem?_eq_getElem hl]; rfl
      · rw [if_neg hl, List.getElem?_eq_none (by omega)]; rfl
    · rw [if_neg hv]
      have e : (j ∈ v :: vs) = (j ∈ vs) := by
        rw [List.mem_cons]
        exact propext ⟨fun z => z.elim (fun q => absurd q.symm hv) id, Or.inr⟩
      by_cases hj : j ∈ vs
      · rw [if_pos hj, if_pos (List.mem_cons_of_mem _ hj)]
      · rw [if_neg hj, if_neg (by rw [e]; exact hj)]
theorem wipe_set {σ : L2.St} {i : Nat} {x : Option V} {vs : List Nat} (h : i ∈ vs) : wipe (σ.set i x) vs = wipe σ vs := by
  apply List.ext_getElem?
  intro j
  rw [wipe_get, wipe_get]
  by_cases hj : i = j
  · subst hj
    rw [if_pos h, if_pos h, List.getElem?_set]
    by_cases hl : i < σ.length
    · rw [if_pos rfl, if_pos hl, List.getElem?_eq_getElem hl]; rfl
    · rw [if_pos rfl, if_neg hl, List.getElem?_eq_none (by omega)]
  · rw [List.getElem?_set_ne hj]
section
variable {K : PySem.W.Frag} {W : WX} {ρ ρ' ρ1 : List Sl} {te ta tb : TE} {t u : TS} {R : Rp} {B : Bw} {o : Out} {i : Nat}
theorem Ex.next : Ex W tNext ρ (.nx ρ) := ⟨fun D s q => q _ _ _ (Same.refl _) s⟩
theorem Ex.break_ : Ex W tBreak ρ (.bk ρ) := ⟨fun D s q => q _ _ _ (Same.refl _) s⟩
theorem Ex.cont : Ex W tCont ρ (.ct ρ) := ⟨fun D s q => q _ _ _ (Same.refl _) s⟩
theorem Ex.go (h : Ex W t ρ (.nx ρ')) : Ex W t ρ (.go ρ') := ⟨fun D s q => h.run D s q.1⟩
theorem Ex.goc (h : Ex W t ρ (.ct ρ')) : Ex W t ρ (.go ρ') := ⟨fun D s q => h.run D s q.2⟩
theorem Ex.is {o' : Out} (h : Ex W t ρ o) (e : o = o') : Ex W t ρ o' := by rw [← e]; exact h
theorem Ex.of {ρ'} (e : ρ' = ρ) (h : Ex W t ρ' o) : Ex W t ρ o := by rw [← e]; exact h
theorem Nx.weak {N : L2.St → Hp → Prop} {G : Hp} {L0 : List Cell} (w : Wk ρ ρ') (h : Nx N G L0 ρ') : Nx N G L0 ρ := fun G' σ' H' e s => by
  obtain ⟨G2, e2, s2⟩ := s.weak w
  exact h G2 σ' H' (e.trans e2) s2
/-- told less ahead -/
theorem Ex.weak (w : Wk ρ ρ') (h : Ex W t ρ' o) : Ex W t ρ o := ⟨fun D s q => by
  obtain ⟨G2, e2, s2⟩ := s.weak w
  exact h.run D s2 (q.mono e2)⟩
theorem Ex.out (w : Wk ρ' ρ1) (h : Ex W t ρ (.nx ρ')) : Ex W t ρ (.nx ρ1) := ⟨fun D s q => h.run D s (Nx.weak w q)⟩
theorem Ex.goout (w : Wk ρ' ρ1) (h : Ex W t ρ (.go ρ')) : Ex W t ρ (.go ρ1) := ⟨fun D s q => h.run D s ⟨Nx.weak w q.1, Nx.weak w q.2⟩⟩
theorem Ex.seq (h : Ex W t ρ (.nx ρ1)) (k : Ex W u ρ1 o) : Ex W (tSeq t u) ρ o := ⟨fun D s q => h.run { D with nx := u D } s fun G' σ' H' e s' => k.run D s' (q.mono e)⟩
/-- an end that is not the next statement -/
def Out.ends : Out → Bool
  | .nx _ => false
  | .go _ => false
  | _ => true
theorem Ex.seqE (h : Ex W t ρ o) (k : o.ends = true) : Ex W (tSeq t u) ρ o := ⟨fun D s q => h.run { D with nx := u D } s (by
  cases o with
  | nx _ => cases k
  | go _ => cases k
  | bk _ => exact q
  | ct _ => exact q
  | rt _ => exact q
  | ro _ => exact q
  | xc _ _ _ => exact q)⟩
theorem Ex.ife {tc : TT} {b : Bool} (hc : EvT tc ρ b) (h1 : b = true → Ex W t ρ o) (h2 : b = false → Ex W u ρ o) : Ex W (tIfS tc t u) ρ o := ⟨fun D s q => hc.run _ s fun G1 H1 e1 s1 => by
  cases b with
  | true => exact (h1 rfl).run D s1 (q.mono e1)
  | false => exact (h2 rfl).run D s1 (q.mono e1)⟩
/-- an if whose two ways go their own ends -/
theorem Ex.ite {v : TS} {tc : TT} {b : Bool} (hc : EvT tc ρ b) (h1 : b = true → Ex W (tSeq t v) ρ o) (h2 : b = false → Ex W (tSeq u v) ρ o) : Ex W (tSeq (tIfS tc t u) v) ρ o := ⟨fun D s q => hc.run _ s fun G1 H1 e1 s1 => by
  cases b with
  | true => exact (h1 rfl).run D s1 (q.mono e1)
  | false => exact (h2 rfl).run D s1 (q.mono e1)⟩
theorem Ex.skip (h : Ex W u ρ o) : Ex W (tSeq tNext u) ρ o := Ex.seq Ex.next h
theorem Ex.set (h : Ev te ρ (pu R)) (i : Nat := i) : Ex W (tAsg te (gName i)) ρ (.nx (ρ.set i (.p R))) := ⟨fun D s q => h.atp s fun G' H' v e s' r => by
  obtain ⟨G2, e2, s2⟩ := s'.set_p r i
  exact q G2 _ H' (e.trans e2) s2⟩
theorem Ex.setN {ds : List PyData} (h : EvN te ρ ds) (hi : i < ρ.length) : Ex W (tAsg te (gName i)) ρ (.nx (ρ.set i (.o (oL ds)))) := ⟨fun D s q => h.run _ s fun G' H' p vs e s' hp d => by
  obtain ⟨G2, e2, s2⟩ := s'.set_o (O := oL ds) (a := p) (cs := [(p, .lst vs)]) (H' := upd H' p (.lst vs)) ⟨vs, rfl, d⟩ i hi (fun M l => l.cell hp)
  exact q G2 _ _ (e.trans e2) s2⟩
/-- an owned list is from now on data that stays -/
theorem Ex.freeze {ds : List PyData} (i : Nat) (hi : ρ[i]? = some (.o (oL ds))) (h : Ex W t (ρ.set i (.p (dat (.list ds)))) o) : Ex W t ρ o := ⟨fun {G σ L0 H} D s q => by
  obtain ⟨a, cs, e, ⟨vs, hcs, d⟩, hh, k1, k2⟩ := s.get_o hi
  subst hcs
  obtain ⟨G2, e2, s2⟩ := k2 (dat (.list ds)) fun G' e' hc => Dq.lst (hc (a, .lst vs) (List.mem_cons_self ..)) (dpAll_up e' d)
  exact h.run D s2 (q.mono e2)⟩
theorem Ex.ret (h : Ev te ρ (pu R)) : Ex W (tRet te) ρ (.rt R) := ⟨fun D s q => h.atp s fun G' H' v e s' r => q G' _ _ H' v e s' r⟩
theorem Ex.retN : Ex W tRetN ρ (.rt (dat .none)) := ⟨fun D s q => q _ _ _ _ _ (Same.refl _) s Dq.non⟩
theorem Ex.drop (h : Ev te ρ B) : Ex W (tDrop te) ρ (.nx ρ) := ⟨fun D s q => h.at s fun G' H' v L e s' _ _ _ => q G' _ H' e s'⟩
theorem Ex.asg {g : TG} {T : List Nat} (h : Ev te ρ (pu R)) (hg : EvG g T ρ R ρ') : Ex W (tAsg te g) ρ (.nx ρ') := ⟨fun D s q => h.atp s fun G' H' v e s' r => hg.run v _ s' r fun G2 σ2 H2 e2 s2 _ => q G2 σ2 H2 (e.trans e2) s2⟩
theorem eg_name : EvG (gName i) [i] ρ R (ρ.set i (.p R)) := ⟨fun v Q s r q => by
  obtain ⟨G2, e2, s2⟩ := s.set_p r i
  exact q G2 _ _ e2 s2 fun vs h => wipe_set (h i (List.mem_cons_self ..))⟩
theorem egs_nil : EvGs gNil [] ρ [] ρ := ⟨fun vs Q s r q => by
  cases r
  exact ⟨rfl, q _ _ _ (Same.refl _) s fun _ _ => rfl⟩⟩
theorem egs_cons {g : TG} {gs : TGs} {T U : List Nat} {d : PyData} {ds : List PyData} (h1 : EvG g T ρ (dat d) ρ1) (h2 : EvGs gs U ρ1 ds ρ') : EvGs (gCons g gs) (T ++ U) ρ (d :: ds) ρ' := ⟨fun vs Q s r q => by
  cases r with
  | cons r1 r2 =>
    exact ⟨_, _, rfl, h1.run _ _ s r1 fun G1 σ1 H1 e1 s1 w1 => h2.run _ _ s1 (dpAll_up e1 r2) fun G2 σ2 H2 e2 s2 w2 => q G2 σ2 H2 (e1.trans e2) s2 fun vs h =>
      (w2 vs fun i hi => h i (List.mem_append_right _ hi)).trans (w1 vs fun i hi => h i (List.mem_append_left _ hi))⟩⟩
theorem eg_tup {n : Nat} {gs : TGs} {T : List Nat} {ds : List PyData} (h : EvGs gs T ρ ds ρ') (hn : ds.length = n) : EvG (gTup K n gs) T ρ (dat (.tuple ds)) ρ' := ⟨fun v Q s r q => by
  have r : Dq _ v (.tuple ds) := r
  cases r with
  | tup a b => exact ⟨_, _, rfl, .inl (.inl (s.same _ _ a)), by rw [dpAll_len b]; exact hn, h.run _ Q s b q⟩⟩
/-! ### walks -/
/-- what a walk J yields where G stands: the data ds, one by one -/
structure Gives (J : It) (G0 : Hp) (L0 : List Cell) (ds : List PyData) : Prop where
  go : ∀ i G L H, Same G0 G → Lay G (L ++ L0) H → (h : i < ds.length) → J.go i H ∧ ∀ x H', J.yld i H x H' → ∃ G', Same G G' ∧ (∀ L, Lay G (L ++ L0) H → Lay G' (L ++ L0) H') ∧ Dq G' x ds[i]
  stop : ∀ i G L H, Same G0 G → Lay G (L ++ L0) H → ds.length ≤ i → J.stop i H
structure EvI (K : PySem.W.Frag) (wi : TI) (ρ : List Sl) (ds : List PyData) : Prop where
  run : ∀ {G : Hp} {σ : L2.St} {L0 : List Cell} {H : Hp} (Q : It → Hp → Prop), Stt G ρ σ L0 H →
    (∀ G' H' J, Same G G' → Stt G' ρ σ L0 H' → Gives J G' L0 ds → Q J H') → wi σ H Q
/-- a list that stays, or somebody else's -/
structure EvS (K : PySem.W.Frag) (te : TE) (ρ : List Sl) (ds : List PyData) : Prop where
  run : ∀ {G : Hp} {σ : L2.St} {L0 : List Cell} {H : Hp} (Q : VK), Stt G ρ σ L0 H →
    (∀ G' H' a vs, Same G G' → Stt G' ρ σ L0 H' → (∀ G'' L'' H'', Same G' G'' → Lay G'' (L'' ++ L0) H'' → SqL K H'' a vs) → DqAll G' vs ds → Q (.ref a) H') → te σ H Q
theorem Ev.s {ds : List PyData} (h : Ev te ρ (pu (dat (.list ds)))) : EvS K te ρ ds := ⟨fun Q s q => h.atp s fun G' H' v e s' r => by
  have r : Dq G' v (.list ds) := r
  cases r with
  | lst a b => exact q G' H' _ _ e s' (fun G'' L'' H'' e2 l => .inl (.inl (l.same _ _ (e2 _ _ a)))) b⟩
theorem es_b {ds : List PyData} (h : ρ[i]? = some (.b (bL ds))) : EvS K (tVar i) ρ ds := ⟨fun Q s q => by
  obtain ⟨v, e, r⟩ := s.get_b h
  obtain ⟨a, vs, rfl, hc, d⟩ := r
  exact ⟨_, e, q _ _ a vs (Same.refl _) s (fun G'' L'' H'' e2 l => .inl (.inl (hc.elim (fun z => l.same _ _ (e2 _ _ z)) fun z => (l.on _ (List.mem_append_right _ z)).1))) d⟩⟩
theorem ei_list {ds : List PyData} (h : EvS K te ρ ds) : EvI K (iList K te) ρ ds := ⟨fun Q s q => h.run _ s fun G' H' a vs e s' hc d => by
  obtain ⟨L, sl, la⟩ := id s'
  refine ⟨a, rfl, ⟨vs, hc _ _ _ (Same.refl _) la⟩, q G' H' _ e s' ⟨fun i G L H e2 l hi => ?_, fun i G L H e2 l hi => ?_⟩⟩
  · have hq := hc _ _ _ e2 l
    obtain ⟨v, hv, dv⟩ := dpAll_get d (List.getElem?_eq_getElem hi)
    refine ⟨⟨vs, v, hq, hv⟩, fun x H' y => ?_⟩
    obtain ⟨rfl, y⟩ := y
    have ex : x = v := Option.some.inj ((y vs hq).symm.trans hv)
    subst ex
    exact ⟨G, Same.refl _, fun L l => l, dp_up e2 dv⟩
  · exact ⟨vs, hc _ _ _ e2 l, by rw [dpAll_len d]; exact hi⟩⟩
/-- lo, lo + 1, .. -/
def irange (lo : Int) (n : Nat) : List PyData := (List.range n).map fun k => .int (lo + (k : Nat))
theorem irange_len (lo : Int) (n : Nat) : (irange lo n).length = n := by simp [irange]
theorem gives_range {G : Hp} {L0 : List Cell} {lo : Int} {n : Nat} : Gives (Itr lo n) G L0 (irange lo n) :=
  ⟨fun i G L H e l hi => ⟨by rw [irange_len] at hi; exact hi, fun x H' y => by
    obtain ⟨rfl, rfl⟩ := y
    refine ⟨G, Same.refl _, fun L l => l, ?_⟩
    have e : (irange lo n)[i] = .int (lo + (i : Nat)) := by simp [irange]
    rw [e]
    exact Dq.int _⟩, fun i G L H e l hi => by rw [irange_len] at hi; exact hi⟩
theorem ei_range1 {ta : TA} {n : Int} (h : EvA ta ρ [pu (dI n)]) (h1 : -(2 ^ 62) ≤ n) (h2 : n < 2 ^ 62) : EvI K (iRng1 ta) ρ (irange 0 n.toNat) := ⟨fun Q s q => h.at s fun G' H' vs L e a b r => by
  cases r with
  | cons r1 r2 =>
    cases r2; cases r1
    exact ⟨n, rfl, h1, h2, q G' H' _ e ⟨L, a, b⟩ gives_range⟩⟩
theorem ei_range2 {ta : TA} {m n : Int} (h : EvA ta ρ [pu (dI m), pu (dI n)]) (h1 : -(2 ^ 62) ≤ m) (h2 : m < 2 ^ 62) (h3 : -(2 ^ 62) ≤ n) (h4 : n < 2 ^ 62) : EvI K (iRng2 ta) ρ (irange m (n - m).toNat) := ⟨fun Q s q => h.at s fun G' H' vs L e a b r => by
  cases r with
  | cons r1 r2 =>
    cases r2 with
    | cons r2 r3 =>
      cases r3; cases r1; cases r2
      exact ⟨m, n, rfl, ⟨h1, h2, h3, h4⟩, q G' H' _ e ⟨L, a, b⟩ gives_range⟩⟩
theorem ei_enum {ds : List PyData} (h : EvS K te ρ ds) : EvI K (iEnum K (tCons te tNil)) ρ (ds.zipIdx.map fun p => .tuple [.int ((p.2 : Nat) : Int), p.1]) := ⟨fun Q s q => h.run _ s fun G' H' a vs e s' hc d => by
  obtain ⟨L, sl, la⟩ := id s'
  refine ⟨a, vs, rfl, hc _ _ _ (Same.refl _) la, q G' H' _ e s' ⟨fun i G L H e2 l hi => ?_, fun i G L H e2 l hi => ?_⟩⟩
  · have hi' : i < ds.length := by simpa using hi
    have hq := hc _ _ _ e2 l
    obtain ⟨v, hv, dv⟩ := dpAll_get d (List.getElem?_eq_getElem hi')
    refine ⟨⟨vs, v, hq, hv⟩, fun x H' y => ?_⟩
    obtain ⟨T, x2, rfl, hT, rfl, y⟩ := y
    have ex : x2 = v := Option.some.inj ((y vs hq).symm.trans hv)
    subst ex
    have g := same_upd (o := .tup [.int (i : Nat), x2]) (l.freshG hT)
    refine ⟨_, g, fun L l => l.grow hT, ?_⟩
    have e3 : (ds.zipIdx.map fun p => PyData.tuple [.int ((p.2 : Nat) : Int), p.1])[i] = .tuple [.int ((i : Nat) : Int), ds[i]] := by simp
    rw [e3]
    exact Dq.tup upd_same (.cons (.int _) (.cons (dp_up (e2.trans g) dv) .nil))
  · exact ⟨vs, hc _ _ _ e2 l, by rw [dpAll_len d]; simpa using hi⟩⟩
/-! ### loops -/
/-- one turn and the next; f s x: the next state, or the loop's end -/
def runF {α S : Type} (f : S → α → Sum S Out) : S → List α → Sum S Out
  | s, [] => .inl s
  | s, x :: xs => match f s x with
    | .inl s' => runF f s' xs
    | .inr o => .inr o
theorem runF_app {α S : Type} {f : S → α → Sum S Out} : ∀ {xs ys : List α} {s s' : S}, runF f s xs = .inl s' → runF f s (xs ++ ys) = runF f s' ys
  | [], _, _, _, h => by
    cases h
    rfl
  | x :: xs, ys, s, s', h => by
    show (match f s x with | .inl s' => runF f s' (xs ++ ys) | .inr o => .inr o) = _
    unfold runF at h
    cases q : f s x with
    | inl s1 =>
      rw [q] at h
      exact runF_app h
    | inr o =>
      rw [q] at h
      cases h
def unbk : Out → Out
  | .bk ρ => .nx ρ
  | o => o
def loopOut {S : Type} (E : S → List Sl) : Sum S Out → Out
  | .inl s => .nx (E s)
  | .inr o => unbk o
def turnOut {S : Type} (E : S → List Sl) : Sum S Out → Out
  | .inl s => .go (E s)
  | .inr o => o
/-- an end of a loop's turn that leaves the loop -/
def Out.leaves : Out → Bool
  | .rt _ => true
  | .ro _ => true
  | .bk _ => true
  | .xc _ _ _ => true
  | _ => false
theorem Ex.forF {α S : Type} {wi : TI} {g : TG} {tb : TS} {xs : List α} {en : α → PyData} {T : List Nat} {s0 : S} (E : S → List Sl) (f : S → α → Sum S Out) (hi : EvI K wi ρ (xs.map en)) (h0 : Wk ρ (E s0))
    (hb : ∀ pre x post s, xs = pre ++ x :: post → runF f s0 pre = .inl s → (∀ o, f s x = .inr o → o.leaves = true) ∧ ∃ T ρ1, EvG g T (E s) (dat (en x)) ρ1 ∧ Ex W tb ρ1 (turnOut E (f s x))) :
    Ex W (tFor wi g tb) ρ (loopOut E (runF f s0 xs)) := ⟨fun {G σ L0 H} D s q => hi.run _ s fun G1 H1 J e1 s1 gv => by
  obtain ⟨G2, e2, s2⟩ := s1.weak h0
  refine ⟨fun i m σ H => m = xs.length - i ∧ i ≤ xs.length ∧ ∃ s G', runF f s0 (xs.take i) = .inl s ∧ Same G2 G' ∧ Stt G' (E s) σ L0 H, ⟨xs.length, by simp, Nat.zero_le _, s0, G2, rfl, Same.refl _, s2⟩, ?_⟩
  rintro i m σ' H' ⟨rfl, hi, s', G', hr, e3, s3⟩
  obtain ⟨L3, sl3, la3⟩ := id s3
  have e13 : Same G1 G' := e2.trans e3
  by_cases hlt : i < xs.length
  · right
    have hx : xs[i]? = some xs[i] := List.getElem?_eq_getElem hlt
    have hsplit : xs = xs.take i ++ xs[i] :: xs.drop (i + 1) := by
      rw [List.getElem_cons_drop, List.take_append_drop]
    obtain ⟨hlv, T, ρ1, hg, hbody⟩ := hb _ _ _ s' hsplit hr
    obtain ⟨g1, g2⟩ := gv.go i G' L3 H' e13 la3 (by simpa using hlt)
    refine ⟨g1, fun σ'' H'' => ∃ s G', runF f s0 (xs.take (i + 1)) = .inl s ∧ Same G2 G' ∧ Stt G' (E s) σ'' L0 H'', fun σ'' H'' ⟨s, G'', a, b, c⟩ => ⟨xs.length - (i + 1), by omega, rfl, hlt, s, G'', a, b, c⟩, fun x H4 y => ?_⟩
    obtain ⟨G4, e4, l4, d4⟩ := g2 x H4 y
    have d4 : Dq G4 x (en xs[i]) := by simpa using d4
    have s4 : Stt G4 (E s') σ' L0 H4 := ⟨L3, sl3.up e4, l4 _ la3⟩
    refine hg.run x _ s4 d4 fun G5 σ5 H5 e5 s5 _ => ?_
    have e25 : Same G2 G5 := (e3.trans e4).trans e5
    refine hbody.run _ s5 ?_
    have htake : runF f s0 (xs.take (i + 1)) = runF f s' [xs[i]] := by
      rw [List.take_add_one, hx]
      exact runF_app hr
    cases hf : f s' xs[i] with
    | inl s6 =>
      have z : runF f s0 (xs.take (i + 1)) = .inl s6 := by
        rw [htake]
        show (match f s' xs[i] with | .inl s' => runF f s' [] | .inr o => .inr o) = _
        rw [hf]
        rfl
      have k : ∀ G6 σ6 H6, Same G5 G6 → Stt G6 (E s6) σ6 L0 H6 → ∃ s G', runF f s0 (xs.take (i + 1)) = .inl s ∧ Same G2 G' ∧ Stt G' (E s) σ6 L0 H6 := fun G6 σ6 H6 e6 st => ⟨s6, G6, z, e25.trans e6, st⟩
      exact ⟨k, k⟩
    | inr o =>
      have z : runF f s0 xs = .inr o := by
        rw [hsplit, runF_app hr]
        show (match f s' xs[i] with | .inl s' => runF f s' _ | .inr o => .inr o) = _
        rw [hf]
      rw [z] at q
      have q : Post W D G L0 (unbk o) := q
      have q := q.mono (e1.trans (e2.trans e25))
      have hl := hlv o hf
      cases o with
      | nx _ => cases hl
      | go _ => cases hl
      | ct _ => cases hl
      | bk _ => exact q
      | rt _ => exact q
      | ro _ => exact q
      | xc _ _ _ => exact q
  · left
    have e : i = xs.length := by omega
    subst e
    rw [List.take_length] at hr
    rw [hr] at q
    exact ⟨gv.stop _ G' L3 H' e13 la3 (by simp), q G' σ' H' (e1.trans e13) s3⟩⟩
/-- a loop that goes through: the state by the part taken -/
theorem Ex.for_ {α : Type} {wi : TI} {g : TG} {tb : TS} {xs : List α} {en : α → PyData} (E : List α → List Sl) (hi : EvI K wi ρ (xs.map en)) (h0 : Wk ρ (E []))
    (hb : ∀ pre x post, xs = pre ++ x :: post → ∃ T ρ1, EvG g T (E pre) (dat (en x)) ρ1 ∧ Ex W tb ρ1 (.go (E (pre ++ [x])))) :
    Ex W (tFor wi g tb) ρ (.nx (E xs)) := by
  have key : ∀ ys zs : List α, runF (fun (s : List α) x => (.inl (s ++ [x]) : Sum (List α) Out)) ys zs = .inl (ys ++ zs) := by
    intro ys zs
    induction zs generalizing ys with
    | nil => simp [runF]
    | cons z zs ih =>
      show runF _ (ys ++ [z]) zs = _
      rw [ih]
      simp
  have h := Ex.forF (W := W) (T := []) (s0 := ([] : List α)) (wi := wi) (g := g) (tb := tb) (xs := xs) (en := en) (ρ := ρ) E (fun s x => .inl (s ++ [x])) hi h0 (fun pre x post s e r => by
    rw [key] at r
    have r : [] ++ pre = s := Sum.inl.inj r
    rw [List.nil_append] at r
    subst r
    exact ⟨fun o z => (by cases z), hb pre x post e⟩)
  rw [key] at h
  exact h
end
end Z

set_option Elab.async false
set_option linter.all false
set_option maxRecDepth 100000
set_option maxHeartbeats 2000000
/-! Zd: comprehensions, lists changed, slices, calls of builtins. -/
namespace Z
open PySem PySem.Spec PyProof.Rows L2
theorem Slots.mono {G : Hp} {L0 L1 : List Cell} (h : ∀ c ∈ L0, c ∈ L1) : ∀ {σ ρ L}, Slots G L0 σ ρ L → Slots G L1 σ ρ L
  | _, _, _, .nil => .nil
  | _, _, _, .x s => .x (s.mono h)
  | _, _, _, .p q s => .p q (s.mono h)
  | _, _, _, .o q s => .o q (s.mono h)
  | _, _, _, .b q s => .b (Bw.up _ (Same.refl _) h q) (s.mono h)
/-- the new facts, the borrowed ones by the old frame -/
theorem Slots.mix {G G' : Hp} {L0 L1 : List Cell} (e : Same G G') : ∀ {σ ρ L L'}, Slots G L0 σ ρ L → Slots G' L1 σ ρ L' → Slots G' L0 σ ρ L'
  | _, _, _, _, .nil, .nil => .nil
  | _, _, _, _, .x s, .x s' => .x (s.mix e s')
  | _, _, _, _, .p _ s, .p q s' => .p q (s.mix e s')
  | _, _, _, _, .o _ s, .o q s' => .o q (s.mix e s')
  | _, _, _, _, .b q s, .b _ s' => .b (Bw.up _ e (fun _ z => z) q) (s.mix e s')
/-- slots that tell nothing may hold anything -/
theorem Slots.agree {G : Hp} {L0 : List Cell} : ∀ {σ : L2.St} {ρ : List Sl} {L} {σ' : L2.St}, Slots G L0 σ ρ L → σ'.length = σ.length → (∀ j : Nat, ρ[j]? ≠ some Sl.x → σ'[j]? = σ[j]?) → Slots G L0 σ' ρ L
  | _, _, _, [], .nil, _, _ => .nil
  | _, _, _, [], .x _, h, _ | _, _, _, [], .p _ _, h, _ | _, _, _, [], .o _ _, h, _ | _, _, _, [], .b _ _, h, _ => by simp at h
  | _, _, _, _ :: _, .nil, h, _ => by simp at h
  | _, _, _, v :: σ', .x s, h, k => .x (s.agree (by simpa using h) fun j hj => by simpa using k (j + 1) (by simpa using hj))
  | _, _, _, v :: σ', .p q s, h, k => by
    have e := k 0 (by simp)
    simp at e
    subst e
    exact .p q (s.agree (by simpa using h) fun j hj => by simpa using k (j + 1) (by simpa using hj))
  | _, _, _, v :: σ', .b q s, h, k => by
    have e := k 0 (by simp)
    simp at e
    subst e
    exact .b q (s.agree (by simpa using h) fun j hj => by simpa using k (j + 1) (by simpa using hj))
  | _, _, _, v :: σ', .o q s, h, k => by
    have e := k 0 (by simp)
    simp at e
    subst e
    exact .o q (s.agree (by simpa using h) fun j hj => by simpa using k (j + 1) (by simpa using hj))
/-- the slots vs tell nothing -/
def AllX (ρ : List Sl) : List Nat → Prop
  | [] => True
  | v :: vs => ρ[v]? = some Sl.x ∧ AllX ρ vs
theorem AllX.at {ρ : List Sl} : ∀ {vs : List Nat} {v : Nat}, AllX ρ vs → v ∈ vs → ρ[v]? = some Sl.x
  | [], _, _, h => by simp at h
  | w :: vs, v, ⟨h1, h2⟩, h => by
    rcases List.mem_cons.mp h with z | z
    · rw [z]; exact h1
    · exact h2.at z
theorem wipe_agree {ρ : List Sl} {σ : L2.St} {vs : List Nat} (h : AllX ρ vs) : ∀ j : Nat, ρ[j]? ≠ some Sl.x → (wipe σ vs)[j]? = σ[j]? := fun j hj => by
  rw [wipe_get]
  by_cases hm : j ∈ vs
  · exact absurd (h.at hm) hj
  · rw [if_neg hm]
theorem wipe_two {ρ : List Sl} {σ σ' : L2.St} {vs : List Nat} (h : AllX ρ vs) (e : wipe σ' vs = wipe σ vs) : ∀ j : Nat, ρ[j]? ≠ some Sl.x → σ'[j]? = σ[j]? := fun j hj => by
  rw [← wipe_agree (σ := σ') h j hj, e, wipe_agree h j hj]
theorem len_two {σ σ' : L2.St} {vs : List Nat} (e : wipe σ' vs = wipe σ vs) : σ'.length = σ.length := by
  have := congrArg List.length e
  rwa [wipe_length, wipe_length] at this
section
variable {K : PySem.W.Frag} {W : WX} {ρ ρ' ρ1 : List Sl} {te ta tb : TE} {t u : TS} {R : Rp} {B : Bw} {o : Out} {i : Nat}
theorem filt_take {α : Type} (p : α → Bool) {xs : List α} {i : Nat} {x : α} (h : xs[i]? = some x) : (xs.take (i + 1)).filter p = (xs.take i).filter p ++ (if p x = true then [x] else []) := by
  rw [List.take_add_one, h, List.filter_append]
  congr 1
  by_cases hp : p x = true
  · rw [if_pos hp]; simp [hp]
  · rw [if_neg hp]; simp [hp]
/-- [f x for x in xs if p x] -/
theorem en_lc {α : Type} {wi : TI} {g : TG} {tt : TT} {vs : List Nat} {xs : List α} {en f : α → PyData} {p : α → Bool} (hi : EvI K wi ρ (xs.map en)) (hx : AllX ρ vs) (hz : xs.length ≤ 100000)
    (hb : ∀ x ∈ xs, ∃ T ρ1, EvG g T ρ (dat (en x)) ρ1 ∧ (∀ i ∈ T, i ∈ vs) ∧ Wk ρ1 ρ ∧ EvT tt ρ1 (p x) ∧ (p x = true → Ev te ρ1 (pu (dat (f x))))) : EvN (tLc wi g tt te vs) ρ ((xs.filter p).map f) := ⟨fun {G σ L0 H} Q s q => hi.run _ s fun G1 H1 J e1 s1 gv D hD => by
  obtain ⟨L1, sl1, la1⟩ := id s1
  refine ⟨fun i m H => m = xs.length - i ∧ i ≤ xs.length ∧ ∃ G' ws L', Same G1 G' ∧ Slots G' L0 σ ρ L' ∧ Lay G' (L' ++ ((D, HO.lst ws) :: L0)) H ∧ DqAll G' ws (((xs.take i).filter p).map f), ⟨xs.length, by simp, Nat.zero_le _, G1, [], L1, Same.refl _, sl1, ?_, .nil⟩, ?_⟩
  · exact (la1.cell hD).perm List.perm_middle.symm
  rintro i m H2 ⟨rfl, hi, G2, ws, L2', e2, sl2, la2, d2⟩
  have la2' : Lay G2 ((L2' ++ [(D, HO.lst ws)]) ++ L0) H2 := by
    rw [List.append_assoc]
    exact la2
  by_cases hlt : i < xs.length
  · right
    have hxe : xs[i]? = some xs[i] := List.getElem?_eq_getElem hlt
    obtain ⟨g1, g2⟩ := gv.go i G2 _ H2 e2 la2' (by simpa using hlt)
    refine ⟨g1, fun H => ∃ G' ws L', Same G1 G' ∧ Slots G' L0 σ ρ L' ∧ Lay G' (L' ++ ((D, HO.lst ws) :: L0)) H ∧ DqAll G' ws (((xs.take (i + 1)).filter p).map f), fun H' ⟨G', ws, L', a, b, c, d⟩ => ⟨xs.length - (i + 1), by omega, rfl, hlt, G', ws, L', a, b, c, d⟩, fun x H3 y => ?_⟩
    obtain ⟨G3, e3, l3, d3⟩ := g2 x H3 y
    have d3 : Dq G3 x (en xs[i]) := by simpa using d3
    have la3 : Lay G3 (L2' ++ ((D, HO.lst ws) :: L0)) H3 := by
      have := l3 _ la2'
      rw [List.append_assoc] at this
      exact this
    obtain ⟨T, ρ1, hg, hT, hwk, ht, hf⟩ := hb xs[i] (List.getElem_mem hlt)
    have sw : Stt G3 ρ (wipe σ vs) ((D, HO.lst ws) :: L0) H3 := ⟨L2', ((sl2.up e3).mono fun c hc => List.mem_cons_of_mem _ hc).agree (wipe_length σ vs) (wipe_agree hx), la3⟩
    refine hg.run x _ sw d3 fun G4 σ4 H4 e4 s4 w4 => ?_
    have hw4 : wipe σ4 vs = wipe σ vs := by
      rw [w4 vs hT]
      apply List.ext_getElem?
      intro j
      rw [wipe_get, wipe_get]
      by_cases hj : j ∈ vs
      · simp only [if_pos hj]
        cases σ[j]? <;> rfl
      · simp only [if_neg hj]
    refine ⟨hw4, ?_⟩
    -- back to the outer slots
    have back : ∀ {G5 H5}, Same G3 G5 → Stt G5 ρ1 σ4 ((D, HO.lst ws) :: L0) H5 → ∃ G6 L6, Same G5 G6 ∧ Slots G6 L0 σ ρ L6 ∧ Lay G6 (L6 ++ ((D, HO.lst ws) :: L0)) H5 := fun {G5 H5} e5 s5 => by
      obtain ⟨G6, e6, L6, sl6, la6⟩ := s5.weak hwk
      have sl6' := sl6.agree (σ' := σ) (len_two hw4).symm fun j hj => (wipe_two hx hw4 j hj).symm
      exact ⟨G6, L6, e6, (sl2.up e3).mix (e5.trans e6) sl6', la6⟩
    refine ht.run _ s4 fun G5 H5 e5 s5 => ?_
    cases hp : p xs[i] with
    | true =>
      show te _ _ _
      refine (hf hp).atp s5 fun G6 H6 y e6 s6 r6 => ?_
      obtain ⟨G7, L7, e7, sl7, la7⟩ := back ((e4.trans e5).trans e6) s6
      have hc : H6 D = some (HO.lst ws) := (la7.on (D, HO.lst ws) (List.mem_append_right _ (List.mem_cons_self ..))).1
      have e27 : Same G2 G7 := e3.trans (((e4.trans e5).trans e6).trans e7)
      refine ⟨ws, hc, ?_, G7, ws ++ [y], L7, e2.trans e27, sl7, ?_, ?_⟩
      · rw [dpAll_len d2, List.length_map]
        have h1 : ((xs.take i).filter p).length ≤ (xs.take i).length := List.length_filter_le ..
        have h2 : (xs.take i).length ≤ i := by rw [List.length_take]; exact Nat.min_le_left ..
        exact Nat.lt_of_lt_of_le (by omega : _ < 100001) (by decide)
      · exact ((la7.perm List.perm_middle).store).perm List.perm_middle.symm
      · rw [filt_take p hxe, hp, if_pos rfl, List.map_append]
        exact dpAll_app (dpAll_up e27 d2) (.cons (dp_up e7 r6) .nil)
    | false =>
      show ∃ G' ws L', _
      obtain ⟨G7, L7, e7, sl7, la7⟩ := back (e4.trans e5) s5
      have e27 : Same G2 G7 := e3.trans ((e4.trans e5).trans e7)
      refine ⟨G7, ws, L7, e2.trans e27, sl7, la7, ?_⟩
      rw [filt_take p hxe, hp, if_neg Bool.false_ne_true, List.append_nil]
      exact dpAll_up e27 d2
  · left
    have ei : i = xs.length := by omega
    subst ei
    refine ⟨gv.stop _ G2 _ H2 e2 la2' (by simp), ?_⟩
    rw [List.take_length] at d2
    -- the list taken out again
    have la4 : Lay G2 ((D, HO.lst ws) :: (L2' ++ L0)) H2 := la2.perm List.perm_middle
    have hne := la4.ne
    have eH : H2 = upd (fun b => if b = D then none else H2 b) D (.lst ws) := by
      funext b
      by_cases hb : b = D
      · rw [hb, upd_same]; exact (la4.on _ (List.mem_cons_self ..)).1
      · rw [upd_ne hb, if_neg hb]
    have la5 : Lay G2 (L2' ++ L0) (fun b => if b = D then none else H2 b) := by
      refine ⟨fun b hb => ?_, fun c hc => ?_, ?_⟩
      · by_cases h : b = D
        · rw [h, if_pos rfl]; exact ((la4.on _ (List.mem_cons_self ..)).2).symm
        · rw [if_neg h]
          refine la4.off b fun c hc => ?_
          rcases List.mem_cons.mp hc with z | z
          · subst z; exact fun z => h z.symm
          · exact hb c z
      · rw [if_neg (hne c hc)]; exact la4.on c (List.mem_cons_of_mem _ hc)
      · have := la4.nd
        rw [List.map_cons, List.nodup_cons] at this
        exact this.2
    rw [eH]
    exact q G2 _ D ws (e1.trans e2) ⟨L2', sl2, la5⟩ (if_pos rfl) d2⟩
/-- without an if -/
theorem en_lc0 {α : Type} {wi : TI} {g : TG} {vs : List Nat} {xs : List α} {en f : α → PyData} (hi : EvI K wi ρ (xs.map en)) (hx : AllX ρ vs) (hz : xs.length ≤ 100000)
    (hb : ∀ x ∈ xs, ∃ T ρ1, EvG g T ρ (dat (en x)) ρ1 ∧ (∀ i ∈ T, i ∈ vs) ∧ Wk ρ1 ρ ∧ Ev te ρ1 (pu (dat (f x)))) : EvN (tLc wi g tYes te vs) ρ (xs.map f) := by
  have h := en_lc (p := fun _ => true) hi hx hz (tt := tYes) (g := g) (te := te) (f := f) fun x hxm => by
    obtain ⟨T, ρ1, h1, h2, h3, h4⟩ := hb x hxm
    exact ⟨T, ρ1, h1, h2, h3, ⟨fun Q s q => q _ _ (Same.refl _) s⟩, fun _ => h4⟩
  rw [List.filter_eq_self.mpr (fun _ _ => rfl)] at h
  exact h
/-! ### lists that change -/
theorem oL_cell {G : Hp} {a : Addr} {cs : List Cell} {ds : List PyData} (h : (oL ds).p G a cs) : ∃ vs, cs = [(a, HO.lst vs)] ∧ DqAll G vs ds := h
/-- x.append(e), x an owned list -/
theorem Ex.append {ds : List PyData} {d : PyData} {T : String} (hi : ρ[i]? = some (.o (oL ds))) (he : Ev te ρ (pu (dat d))) (hz : ds.length < 1000000) (hT : T = "list") : Ex W (tDrop (tBM K T rAppend (tVar i) (tCons te tNil))) ρ (.nx (ρ.set i (.o (oL (ds ++ [d]))))) := ⟨fun {G σ L0 H} D s q => by
  obtain ⟨a, cs, e, ⟨vs, hcs, hd⟩, hh, _⟩ := s.get_o hi
  subst hcs
  refine ⟨_, e, .inl ⟨hT, vs, .inl (.inl (hh _ (List.mem_cons_self ..)))⟩, ?_⟩
  refine he.atp s fun G1 H1 v e1 s1 r => ?_
  obtain ⟨a', cs', e', ⟨vs', hcs', hd'⟩, hh', k1, _⟩ := s1.get_o hi
  rw [e] at e'
  injection e' with e'; injection e' with e'; injection e' with e'
  subst e' hcs'
  refine ⟨a, vs', v, rfl, rfl, hh' _ (List.mem_cons_self ..), ?_, ?_⟩
  · rw [dpAll_len hd']; exact Nat.lt_trans hz (by decide)
  · exact q G1 _ _ e1 (k1 (oL (ds ++ [d])) [(a, .lst (vs' ++ [v]))] _ ⟨_, rfl, dpAll_app hd' (.cons r .nil)⟩ fun M l => l.store)⟩
/-- x[k] = e, x an owned list -/
theorem Ex.setitem {ds : List PyData} {d : PyData} {k : Int} {j : Nat} (hi : ρ[i]? = some (.o (oL ds))) (he : Ev te ρ (pu (dat d))) (hk : Ev ta ρ (pu (dI k))) (hj : ixN ds.length k = some j) : Ex W (tAsg te (gSub (tVar i) ta rSetL)) ρ (.nx (ρ.set i (.o (oL (ds.set j d))))) := ⟨fun {G σ L0 H} D s q => he.atp s fun G1 H1 v e1 s1 r => by
  obtain ⟨a, cs, e, _⟩ := s1.get_o hi
  refine ⟨_, e, ?_⟩
  refine hk.atp s1 fun G2 H2 w e2 s2 r2 => ?_
  cases r2
  obtain ⟨a', cs', e', ⟨vs', hcs', hd'⟩, hh', k1, _⟩ := s2.get_o hi
  rw [e] at e'
  injection e' with e'; injection e' with e'; injection e' with e'
  subst e' hcs'
  refine ⟨a, vs', k, j, rfl, rfl, hh' _ (List.mem_cons_self ..), by rw [dpAll_len hd']; exact hj, ?_⟩
  exact q G2 _ _ (e1.trans e2) (k1 (oL (ds.set j d)) [(a, .lst (vs'.set j v))] _ ⟨_, rfl, dpAll_set (dp_up e2 r) j hd'⟩ fun M l => l.store)⟩
/-- x op= e -/
theorem Ex.aug {r : R2} {Ra Rb : Rp} (hi : ρ[i]? = some (.p Ra)) (he : Ev te ρ (pu Rb)) (h : Op2 r (pu Ra) (pu Rb) R) : Ex W (tAug i te r) ρ (.nx (ρ.set i (.p R))) := ⟨fun {G σ L0 H} D s q => by
  obtain ⟨v, e, r1⟩ := s.get_p hi
  refine ⟨v, e, ?_⟩
  refine he.atp s fun G1 H1 w e1 s1 r2 => ?_
  obtain ⟨L, a, b⟩ := id s1
  refine h G1 H1 _ v w _ b (Ra.up e1 r1) r2 fun z rz => ?_
  obtain ⟨G2, e2, s2⟩ := s1.set_p rz i
  exact q G2 _ _ (e1.trans e2) s2⟩
/-! ### slices, + and * -/
structure EvO (to : TO) (ρ : List Sl) (k : Option Int) : Prop where
  run : ∀ {G : Hp} {σ : L2.St} {L0 : List Cell} {H : Hp} (Q : Option Int → Hp → Prop), Stt G ρ σ L0 H → (∀ G' H', Same G G' → Stt G' ρ σ L0 H' → Q k H') → to σ H Q
theorem eo_none : EvO tNoPart ρ none := ⟨fun Q s q => q _ _ (Same.refl _) s⟩
theorem eo_some {k : Int} (h : Ev te ρ (pu (dI k))) : EvO (tPart te) ρ (some k) := ⟨fun Q s q => h.atp s fun G' H' v e s' r => by
  cases r
  exact ⟨k, rfl, q _ _ e s'⟩⟩
def cutD (ds : List PyData) (lo hi : Option Int) : List PyData := (ds.drop (HT.sIx ds.length 0 lo)).take (HT.sIx ds.length ds.length hi - HT.sIx ds.length 0 lo)
theorem cut_all {G : Hp} {vs : List V} {ds : List PyData} (h : DqAll G vs ds) (lo hi : Option Int) : DqAll G (cutV vs lo hi) (cutD ds lo hi) := by
  unfold cutV cutD
  rw [dpAll_len h]
  exact dpAll_take _ (dpAll_drop _ h)
theorem en_sl {tl th : TO} {ds : List PyData} {lo hi : Option Int} (h : Ev te ρ (bL ds)) (h1 : EvO tl ρ lo) (h2 : EvO th ρ hi) : EvN (tSl (rSlL K) te tl th) ρ (cutD ds lo hi) := ⟨fun Q s q =>
  h.run _ s fun G1 H1 v e1 s1 r => h1.run _ s1 fun G2 H2 e2 s2 => h2.run _ s2 fun G3 H3 e3 s3 => by
    obtain ⟨L, a, b⟩ := id s3
    obtain ⟨p, vs, rfl, hv, d⟩ := bl_sq b (r G3 L H3 (e2.trans e3) a b)
    exact ⟨p, vs, rfl, .inl (.inl hv), fun n hn => q G3 H3 n _ ((e1.trans e2).trans e3) s3 hn (cut_all d lo hi)⟩⟩
theorem ev_slT {tl th : TO} {ds : List PyData} {lo hi : Option Int} (h : Ev te ρ (pu (dat (.tuple ds)))) (h1 : EvO tl ρ lo) (h2 : EvO th ρ hi) (hn : ¬ (HT.sIx ds.length 0 lo = 0 ∧ HT.sIx ds.length ds.length hi = ds.length)) : Ev (tSl (rSlT K) te tl th) ρ (pu (dat (.tuple (cutD ds lo hi)))) := Ev.pure fun Q s q =>
  h.run _ s fun G1 H1 v e1 s1 r => h1.run _ s1 fun G2 H2 e2 s2 => h2.run _ s2 fun G3 H3 e3 s3 => by
    obtain ⟨L, a, b⟩ := id s3
    have r : Dq G3 v (.tuple ds) := r G3 L H3 (e2.trans e3) a b
    cases r with
    | @tup _ xs _ hv d =>
      refine ⟨_, _, rfl, .inl (.inl (b.same _ _ hv)), by rw [dpAll_len d]; exact hn, fun n hn => ?_⟩
      have g := s3.grow (o := .tup (cutV xs lo hi)) hn
      exact q _ _ _ (((e1.trans e2).trans e3).trans g.1) g.2 (Dq.tup upd_same (dpAll_up g.1 (cut_all d lo hi)))
theorem o_cat {ds es : List PyData} (hz : ds.length + es.length ≤ 1000000) : Op2N rCat (bL ds) (bL es) (ds ++ es) := fun G H L x y Q l hx hy q => by
  obtain ⟨a, vs, rfl, h, d⟩ := bl_sq l hx
  obtain ⟨b, ws, rfl, k, e⟩ := bl_sq l hy
  exact ⟨a, b, vs, ws, rfl, rfl, h, k, by rw [dpAll_len d, dpAll_len e]; exact Nat.le_trans hz (by decide), fun p hp => q p _ hp (dpAll_app d e)⟩
theorem o_rep {ds : List PyData} {k : Int} (hz : ds.length * k.toNat ≤ 1000000) (h1 : -(2 ^ 63) ≤ k) (h2 : k < 2 ^ 63) : Op2N rRep (bL ds) (pu (dI k)) (List.replicate k.toNat ds).flatten := fun G H L x y Q l hx hy q => by
  obtain ⟨a, vs, rfl, h, d⟩ := bl_sq l hx
  cases hy
  exact ⟨a, k, vs, rfl, rfl, h, h1, h2, by rw [dpAll_len d]; exact Nat.le_trans hz (by decide), fun p hp => q p _ hp (dpAll_rep _ d)⟩
/-! ### builtins -/
abbrev cLen (K : PySem.W.Frag) : List V → Hp → VK → Prop := fun xs H Q => ∃ p ys, xs = [.ref p] ∧ (SqL K H p ys ∨ SqT K H p ys) ∧ Q (.int ys.length) H
theorem cl_len {ds : List PyData} : Cl (cLen K) [bL ds] (dI ds.length) := fun G H L vs Q l r q => by
  cases r with
  | cons h t =>
    cases t
    obtain ⟨a, ws, rfl, hv, d⟩ := bl_sq l h
    refine ⟨a, ws, rfl, .inl (.inl (.inl hv)), q _ ?_⟩
    rw [dpAll_len d]
    exact Dq.int _
abbrev cList (K : PySem.W.Frag) : List V → Hp → VK → Prop := fun xs H Q => ∃ p ys, xs = [.ref p] ∧ (SqL K H p ys ∨ SqT K H p ys) ∧ ∀ l, H l = none → Q (.ref l) (upd H l (.lst ys))
theorem cl_list {ds : List PyData} : ClN (cList K) [bL ds] ds := fun G H L vs Q l r q => by
  cases r with
  | cons h t =>
    cases t
    obtain ⟨a, ws, rfl, hv, d⟩ := bl_sq l h
    exact ⟨a, ws, rfl, .inl (.inl (.inl hv)), fun p hp => q p ws hp d⟩
abbrev cAbs : List V → Hp → VK → Prop := fun xs H Q => ∃ i, xs = [.int i] ∧ Q (.int (if i < 0 then -i else i)) H
theorem cl_abs {n : Int} : Cl cAbs [pu (dI n)] (dI (if n < 0 then -n else n)) := fun G H L vs Q l r q => by
  cases r with
  | cons h t =>
    cases t; cases h
    exact ⟨n, rfl, q _ (Dq.int _)⟩
abbrev cMin2 : List V → Hp → VK → Prop := fun xs H Q => ∃ i j, xs = [.int i, .int j] ∧ Q (.int (if j < i then j else i)) H
theorem cl_min2 {m n : Int} : Cl cMin2 [pu (dI m), pu (dI n)] (dI (if n < m then n else m)) := fun G H L vs Q l r q => by
  cases r with
  | cons h t =>
    cases t with
    | cons h2 t =>
      cases t; cases h; cases h2
      exact ⟨m, n, rfl, q _ (Dq.int _)⟩
abbrev cMax2 : List V → Hp → VK → Prop := fun xs H Q => ∃ i j, xs = [.int i, .int j] ∧ Q (.int (if j > i then j else i)) H
theorem cl_max2 {m n : Int} : Cl cMax2 [pu (dI m), pu (dI n)] (dI (if n > m then n else m)) := fun G H L vs Q l r q => by
  cases r with
  | cons h t =>
    cases t with
    | cons h2 t =>
      cases t; cases h; cases h2
      exact ⟨m, n, rfl, q _ (Dq.int _)⟩
abbrev cInt : List V → Hp → VK → Prop := fun xs H Q => (∃ i, xs = [.int i] ∧ Q (.int i) H) ∨ ∃ k, xs = [.bl k] ∧ Q (.int (if k then 1 else 0)) H
theorem cl_int {n : Int} : Cl cInt [pu (dI n)] (dI n) := fun G H L vs Q l r q => by
  cases r with
  | cons h t =>
    cases t; cases h
    exact .inl ⟨n, rfl, q _ (Dq.int _)⟩
theorem cl_intB {b : Bool} : Cl cInt [pu (dB b)] (dI (if b then 1 else 0)) := fun G H L vs Q l r q => by
  cases r with
  | cons h t =>
    cases t; cases h
    exact .inr ⟨b, rfl, q _ (Dq.int _)⟩
theorem cl_sum {ns : List Int} : Cl (rSum K) [bL (ns.map PyData.int)] (dI ns.sum) := fun G H L vs Q l r q => by
  cases r with
  | cons h t =>
    cases t
    obtain ⟨a, ws, rfl, hv, d⟩ := bl_sq l h
    rw [dpAll_ints d] at hv
    exact ⟨a, ns, rfl, .inl (.inl hv), q _ (Dq.int _)⟩
theorem cl_any {bs : List Bool} : Cl (rAny K) [bL (bs.map PyData.bool)] (dB (bs.any id)) := fun G H L vs Q l r q => by
  cases r with
  | cons h t =>
    cases t
    obtain ⟨a, ws, rfl, hv, d⟩ := bl_sq l h
    rw [dpAll_bools d] at hv
    exact ⟨a, bs, rfl, .inl (.inl hv), q _ (Dq.bl _)⟩
theorem cl_all {bs : List Bool} : Cl (rAll K) [bL (bs.map PyData.bool)] (dB (bs.all id)) := fun G H L vs Q l r q => by
  cases r with
  | cons h t =>
    cases t
    obtain ⟨a, ws, rfl, hv, d⟩ := bl_sq l h
    rw [dpAll_bools d] at hv
    exact ⟨a, bs, rfl, .inl (.inl hv), q _ (Dq.bl _)⟩
/-! x in (a, b), x in [a, b]: ints -/
theorem flat_ints : ∀ ns : List Int, (ns.map V.int).all flatV = true
  | [] => rfl
  | n :: ns => by
    rw [List.map_cons, List.all_cons, flat_ints ns]; rfl
theorem inV_ints (n : Int) : ∀ ns : List Int, inV (.int n) (ns.map V.int) = decide (n ∈ ns)
  | [] => rfl
  | m :: ns => by
    show ((m :: ns).map V.int).any _ = _
    rw [List.map_cons, List.any_cons]
    have ih := inV_ints n ns
    unfold inV at ih
    rw [ih]
    have e : eqV (V.int m) (V.int n) = decide (n = m) := by
      show (m == n) = decide (n = m)
      by_cases h : m = n
      · subst h; simp
      · have h' : ¬ n = m := fun z => h z.symm
        simp [h, h']
    rw [e]
    by_cases h : n = m
    · simp [h]
    · simp [h]
theorem o_inT {n : Int} {ns : List Int} : Op2 (rIn K false) (pu (dI n)) (pu (dat (.tuple (ns.map PyData.int)))) (dB (decide (n ∈ ns))) := fun G H L x y Q l hx hy q => by
  cases hx
  have hy : Dq G y (.tuple (ns.map PyData.int)) := hy
  cases hy with
  | tup h d =>
    rw [dpAll_ints d] at h
    refine ⟨_, _, rfl, .inr (.inl (.inl (l.same _ _ h))), rfl, flat_ints ns, q _ ?_⟩
    show Dq G (.bl (inV _ _)) _
    rw [inV_ints]
    exact Dq.bl _
theorem o_inL {n : Int} {ns : List Int} : Op2 (rIn K false) (pu (dI n)) (bL (ns.map PyData.int)) (dB (decide (n ∈ ns))) := fun G H L x y Q l hx hy q => by
  cases hx
  obtain ⟨a, ws, rfl, hv, d⟩ := bl_sq l hy
  rw [dpAll_ints d] at hv
  refine ⟨_, _, rfl, .inl (.inl (.inl hv)), rfl, flat_ints ns, q _ ?_⟩
  show Dq G (.bl (inV _ _)) _
  rw [inV_ints]
  exact Dq.bl _
theorem o_notInL {n : Int} {ns : List Int} : Op2 (rIn K true) (pu (dI n)) (bL (ns.map PyData.int)) (dB (!decide (n ∈ ns))) := fun G H L x y Q l hx hy q => by
  cases hx
  obtain ⟨a, ws, rfl, hv, d⟩ := bl_sq l hy
  rw [dpAll_ints d] at hv
  refine ⟨_, _, rfl, .inl (.inl (.inl hv)), rfl, flat_ints ns, q _ ?_⟩
  show Dq G (.bl (!inV _ _)) _
  rw [inV_ints]
  exact Dq.bl _
/-- is None -/
def isNone : PyData → Bool
  | .none => true
  | _ => false
theorem o_isN {d : PyData} : Op2 (fun x y H Q => y = .non ∧ Q (.bl (decide (x = .non))) H) (pu (dat d)) (pu (dat .none)) (dB (isNone d)) := fun G H L x y Q l hx hy q => by
  have hx : Dq G x d := hx
  cases hy
  refine ⟨rfl, q _ ?_⟩
  cases hx <;> exact Dq.bl _
theorem o_notN {d : PyData} : Op2 (fun x y H Q => y = .non ∧ Q (.bl (!decide (x = .non))) H) (pu (dat d)) (pu (dat .none)) (dB (!isNone d)) := fun G H L x y Q l hx hy q => by
  have hx : Dq G x d := hx
  cases hy
  refine ⟨rfl, q _ ?_⟩
  cases hx <;> exact Dq.bl _
end
end Z

set_option Elab.async false
set_option linter.all false
set_option maxRecDepth 100000
set_option maxHeartbeats 2000000
/-! Ze: promises, calls, errors, instances. -/
namespace Z
open PySem PySem.Spec PyProof.Rows L2
/-! ### promises -/
inductive Res where
  | ok (R : Rp) | own (O : Op) | err (C : Addr) (n : Int)
def ResP (Q : VK) (E : XK) (G : Hp) (L : List Cell) : Res → Prop
  | .ok R => ∀ G' H' v, Same G G' → Lay G' L H' → R.p G' v → Q v H'
  | .own O => ∀ G' H' a cs, Same G G' → Lay G' (cs ++ L) H' → O.p G' a cs → Q (.ref a) H'
  | .err C n => ∀ G' H' d, Same G G' → Lay G' L H' → H' d = none → E (.ref C) (some d) (upd H' d (atF n))
/-- from arguments A x to the result R x, wherever pre x -/
def SpA {α : Type} (pre : α → Prop) (A : α → List Bw) (R : α → Res) : Sp := fun vs H Q E => ∃ x G L, pre x ∧ Lay G L H ∧ AllB G L vs (A x) ∧ ResP Q E G L (R x)
theorem allB_len {G : Hp} {L : List Cell} : ∀ {vs : List V} {Bs : List Bw}, AllB G L vs Bs → vs.length = Bs.length
  | _, _, .nil => rfl
  | _, _, .cons _ t => by simp [allB_len t]
theorem SpA.len {α : Type} {pre : α → Prop} {A : α → List Bw} {R : α → Res} {n : Nat} (h : ∀ x, (A x).length = n) : ∀ vs H Q E, SpA pre A R vs H Q E → vs.length = n := fun vs H Q E ⟨x, G, L, _, _, a, _⟩ => by
  rw [allB_len a, h]
/-- the slots at a def's start -/
def st0 (Bs : List Bw) (k : Nat) : List Sl := Bs.map Sl.b ++ List.replicate k Sl.x
def Res.out (ρ : List Sl) : Res → Out
  | .ok R => .rt R
  | .own O => .ro O
  | .err C n => .xc ρ C n
theorem slots_x {G : Hp} {L0 : List Cell} : ∀ k, Slots G L0 (List.replicate k none) (List.replicate k Sl.x) []
  | 0 => .nil
  | k + 1 => .x (slots_x k)
theorem slots_start {G : Hp} {L0 : List Cell} (k : Nat) : ∀ {vs : List V} {Bs : List Bw}, AllB G L0 vs Bs → Slots G L0 (vs.map some ++ List.replicate k none) (st0 Bs k) []
  | _, _, .nil => slots_x k
  | _, _, .cons h t => .b h (slots_start k t)
abbrev WofE (E : XK) : WX := fun cls d _ H => E cls d H
theorem SpA.run {α : Type} {pre : α → Prop} {A : α → List Bw} {R : α → Res} {vs : List V} {H : Hp} {Q : VK} {E : XK} {t : TS} {N : List Str} {m : Nat} (h : SpA pre A R vs H Q E) (hm : ∀ x, (A x).length = m)
    (hx : ∀ x, pre x → ∃ ρ, Ex (WofE E) t (st0 (A x) (N.length - m)) ((R x).out ρ)) : t { nx := fun _ H' => Q .non H', rt := Q } (L2.start N vs) H := by
  obtain ⟨x, G, L, hp, la, a, r⟩ := h
  obtain ⟨ρ, ex⟩ := hx x hp
  have hl : vs.length = m := by rw [allB_len a, hm]
  have sl := slots_start (N.length - m) a
  refine ex.run _ (show Stt G _ (L2.start N vs) L H from ⟨[], by unfold L2.start; rw [hl]; exact sl, la⟩) ?_
  cases hR : R x with
  | ok R' =>
    rw [hR] at r
    intro G' ρ' σ' H' v e s rv
    obtain ⟨G2, e2, l2⟩ := s.fin
    exact r G2 H' v (e.trans e2) l2 (R'.up e2 rv)
  | own O =>
    rw [hR] at r
    intro G' H' a cs e l ro
    exact r G' H' a cs e l ro
  | err C n =>
    rw [hR] at r
    intro G' σ' H' d e s hd
    obtain ⟨G2, e2, l2⟩ := s.fin
    exact r G2 H' d (e.trans e2) l2 hd
/-- a body that runs out: None -/
theorem SpA.runN {α : Type} {pre : α → Prop} {A : α → List Bw} {R : α → Res} {vs : List V} {H : Hp} {Q : VK} {E : XK} {t : TS} {N : List Str} {m : Nat} (h : SpA pre A R vs H Q E) (hm : ∀ x, (A x).length = m)
    (hx : ∀ x, pre x → ∃ ρ, (R x = .ok (dat .none) ∧ Ex (WofE E) t (st0 (A x) (N.length - m)) (.nx ρ)) ∨ Ex (WofE E) t (st0 (A x) (N.length - m)) ((R x).out ρ)) : t { nx := fun _ H' => Q .non H', rt := Q } (L2.start N vs) H := by
  obtain ⟨x, G, L, hp, la, a, r⟩ := h
  obtain ⟨ρ, ex⟩ := hx x hp
  rcases ex with ⟨hr, ex⟩ | ex
  · have hl : vs.length = m := by rw [allB_len a, hm]
    have sl := slots_start (N.length - m) a
    refine ex.run _ (show Stt G _ (L2.start N vs) L H from ⟨[], by unfold L2.start; rw [hl]; exact sl, la⟩) fun G' σ' H' e s => ?_
    rw [hr] at r
    obtain ⟨G2, e2, l2⟩ := s.fin
    exact r G2 H' .non (e.trans e2) l2 Dq.non
  · exact SpA.run (pre := fun y => y = x) (A := A) (R := R) (m := m) ⟨x, G, L, rfl, la, a, r⟩ hm fun y hy => ⟨ρ, by rw [hy]; exact ex⟩
section
variable {K : PySem.W.Frag} {W : WX} {ρ ρ' ρ1 : List Sl} {te ta tb : TE} {t u : TS} {tr : TA} {R : Rp} {B : Bw} {o : Out} {i : Nat} {α : Type} {pre : α → Prop} {A : α → List Bw} {F : α → Res} {E : XK} {C : Addr} {n : Int}
/-! ### calls -/
theorem ev_call (x : α) (ha : EvA tr ρ (A x)) (hp : pre x) (hR : F x = .ok R) : Ev (tCall (SpA pre A F) [] E tr) ρ (pu R) := Ev.pure fun {G σ L0 H} Q s q => ha.at s fun G1 H1 vs L e1 sl la r => by
  refine ⟨x, G1, L ++ L0, hp, la, by rw [List.append_nil]; exact r, ?_⟩
  rw [hR]
  exact fun G2 H2 v e2 l2 rv => q G2 H2 v (e1.trans e2) ⟨L, sl.up e2, l2⟩ rv
/-- a call that hands over a new list -/
theorem en_call {ds : List PyData} (x : α) (ha : EvA tr ρ (A x)) (hp : pre x) (hR : F x = .own (oL ds)) : EvN (tCall (SpA pre A F) [] E tr) ρ ds := ⟨fun {G σ L0 H} Q s q => ha.at s fun G1 H1 vs L e1 sl la r => by
  refine ⟨x, G1, L ++ L0, hp, la, by rw [List.append_nil]; exact r, ?_⟩
  rw [hR]
  intro G2 H2 a cs e2 l2 ro
  obtain ⟨ws, hcs, d⟩ := ro
  subst hcs
  have hne := l2.ne
  have eH : H2 = upd (fun b => if b = a then none else H2 b) a (.lst ws) := by
    funext b
    by_cases hb : b = a
    · rw [hb, upd_same]; exact (l2.on _ (List.mem_cons_self ..)).1
    · rw [upd_ne hb, if_neg hb]
  have l3 : Lay G2 (L ++ L0) (fun b => if b = a then none else H2 b) := by
    refine ⟨fun b hb => ?_, fun c hc => ?_, ?_⟩
    · by_cases h : b = a
      · rw [h, if_pos rfl]; exact ((l2.on _ (List.mem_cons_self ..)).2).symm
      · rw [if_neg h]
        refine l2.off b fun c hc => ?_
        rcases List.mem_cons.mp hc with z | z
        · subst z; exact fun z => h z.symm
        · exact hb c z
    · rw [if_neg (hne c hc)]; exact l2.on c (List.mem_cons_of_mem _ hc)
    · have := l2.nd
      rw [List.singleton_append, List.map_cons, List.nodup_cons] at this
      exact this.2
  rw [eH]
  exact q G2 _ a ws (e1.trans e2) ⟨L, sl.up e2, l3⟩ (if_pos rfl) d⟩
/-- an expression that raises -/
structure EvX (W : WX) (te : TE) (ρ : List Sl) (C : Addr) (n : Int) : Prop where
  run : ∀ {G : Hp} {σ : L2.St} {L0 : List Cell} {H : Hp} (Q : VK), Stt G ρ σ L0 H → (∀ G' H' d, Same G G' → Stt G' ρ σ L0 H' → H' d = none → W (.ref C) (some d) σ (upd H' d (atF n))) → te σ H Q
theorem ex_call (x : α) (ha : EvA tr ρ (A x)) (hp : pre x) (hR : F x = .err C n) : EvX (WofE E) (tCall (SpA pre A F) [] E tr) ρ C n := ⟨fun {G σ L0 H} Q s q => ha.at s fun G1 H1 vs L e1 sl la r => by
  refine ⟨x, G1, L ++ L0, hp, la, by rw [List.append_nil]; exact r, ?_⟩
  rw [hR]
  exact fun G2 H2 d e2 l2 hd => q G2 H2 d (e1.trans e2) ⟨L, sl.up e2, l2⟩ hd⟩
/-- in a try -/
theorem ev_callS {E : L2.St → XK} (x : α) (ha : EvA tr ρ (A x)) (hp : pre x) (hR : F x = .ok R) : Ev (tCallS (SpA pre A F) E tr) ρ (pu R) := Ev.pure fun {G σ L0 H} Q s q => ha.at s fun G1 H1 vs L e1 sl la r => by
  refine ⟨x, G1, L ++ L0, hp, la, r, ?_⟩
  rw [hR]
  exact fun G2 H2 v e2 l2 rv => q G2 H2 v (e1.trans e2) ⟨L, sl.up e2, l2⟩ rv
theorem ex_callS (x : α) (ha : EvA tr ρ (A x)) (hp : pre x) (hR : F x = .err C n) : EvX W (tCallS (SpA pre A F) (WE W) tr) ρ C n := ⟨fun {G σ L0 H} Q s q => ha.at s fun G1 H1 vs L e1 sl la r => by
  refine ⟨x, G1, L ++ L0, hp, la, r, ?_⟩
  rw [hR]
  exact fun G2 H2 d e2 l2 hd => q G2 H2 d (e1.trans e2) ⟨L, sl.up e2, l2⟩ hd⟩
theorem Ex.dropX (h : EvX W te ρ C n) : Ex W (tDrop te) ρ (.xc ρ C n) := ⟨fun D s q => h.run _ s fun G' H' d e s' hd => q G' _ H' d e s' hd⟩
theorem Ex.asgX {g : TG} (h : EvX W te ρ C n) : Ex W (tAsg te g) ρ (.xc ρ C n) := ⟨fun D s q => h.run _ s fun G' H' d e s' hd => q G' _ H' d e s' hd⟩
theorem Ex.retX (h : EvX W te ρ C n) : Ex W (tRet te) ρ (.xc ρ C n) := ⟨fun D s q => h.run _ s fun G' H' d e s' hd => q G' _ H' d e s' hd⟩
/-! ### errors with one field, at -/
/-- what __init__ of the errors promises -/
def spAt (K : PySem.W.Frag) : Sp := fun vs H Q _ => ∃ (a C : Addr) (n : Int), vs = [.ref a, .int n] ∧ OexC K C ∧ PySem.W.findIn K (.ref C) "at" = some none ∧ H a = some (exo a C none) ∧
  ∀ dx, H dx = none → dx ≠ a → Q .non (upd (upd H dx (exd dx [(("at" : Str), V.int n)])) a (exo a C (some dx)))
/-- self.at = at -/
theorem pure_at (vs : List V) (H : Hp) (Q : VK) (E : XK) (h : spAt K vs H Q E) : tOst K "at" (tVar 0) (tVar 1) { nx := fun _ H' => Q .non H', rt := Q } (L2.start ["self", "at"] vs) H := by
  obtain ⟨a, C, n, rfl, hC, hn, ha, q⟩ := h
  exact ⟨_, rfl, _, rfl, a, C, rfl, hC, hn, .inl ⟨ha, fun dx hd hne => q dx hd hne⟩⟩
/-- raise C(e) -/
theorem Ex.raise_ {tr : TA} (ha : EvA tr ρ [pu (dI n)]) (hC : OexC K C) (hn : PySem.W.findIn K (.ref C) "at" = some none) : Ex W (fun _ σ H => tMkO C (spAt K) [] tr σ H fun cls d H' => W cls d σ H') ρ (.xc ρ C n) := ⟨fun {G σ L0 H} D s q => ha.at s fun G1 H1 vs L e1 sl la r => by
  cases r with
  | cons h1 h2 =>
    cases h2; cases h1
    refine ⟨(by show 1 ≤ 1000; decide), fun a hA => ⟨a, C, n, rfl, hC, hn, upd_same, fun dx hd hne => ⟨rfl, dx, [(("at" : Str), V.int n)], upd_same, ?_, ?_, ?_⟩⟩⟩
    · rw [upd_ne hne, upd_same]
    · rw [upd_ne hne] at hd
      exact hd
    · rw [upd_ne hne] at hd
      have e : upd (del (upd (upd (upd H1 a (exo a C none)) dx (exd dx [(("at" : Str), V.int n)])) a (exo a C (some dx))) a) dx (.xd [(("at" : Str), V.int n)]) = upd H1 dx (atF n) := by
        funext b
        by_cases hb : b = dx
        · rw [hb, upd_same, upd_same]; rfl
        · rw [upd_ne hb, upd_ne hb]
          by_cases hba : b = a
          · rw [hba, del_same]; exact hA.symm
          · rw [del_ne hba, upd_ne hba, upd_ne hb, upd_ne hba]
      rw [e]
      exact q G1 σ H1 dx e1 ⟨L, sl, la⟩ hd⟩
/-! ### try .. except C as e -/
/-- the error that a suite holds: at a, its dict at d, its field -/
def errR (a d : Addr) (n : Int) : Rp := ⟨fun G v => v = .ref a ∧ G d = some (atF n), fun e h => ⟨h.1, e _ _ h.2⟩⟩
def noSlot (i : Nat) : Out → Out
  | .nx ρ => .nx (ρ.set i .x)
  | .bk ρ => .bk (ρ.set i .x)
  | .ct ρ => .ct (ρ.set i .x)
  | .go ρ => .go (ρ.set i .x)
  | o => o
theorem Stt.set_none {G H : Hp} {σ : L2.St} {L0 : List Cell} (s : Stt G ρ σ L0 H) (i : Nat) : ∃ G', Same G G' ∧ Stt G' (ρ.set i .x) (σ.set i none) L0 H := by
  have w : Wk ρ (ρ.set i .x) := by
    have : ∀ (ρ : List Sl) (i : Nat), Wk ρ (ρ.set i .x) := by
      intro ρ
      induction ρ with
      | nil => intro i; exact .nil
      | cons s ρ ih =>
        intro i
        cases i with
        | zero => exact .x (Wk.refl ρ)
        | succ i => exact .k (ih i)
    exact this ρ i
  obtain ⟨G', e, L, sl, la⟩ := s.weak w
  refine ⟨G', e, L, sl.agree (by simp) fun j hj => ?_, la⟩
  by_cases h : i = j
  · subst h
    by_cases hl : i < ρ.length
    · exact absurd (by simp [hl]) hj
    · have hlen : σ.length = ρ.length := s.len
      rw [List.getElem?_eq_none (by simp; omega), List.getElem?_eq_none (by omega)]
  · rw [List.getElem?_set_ne h]
end
end Z

set_option Elab.async false
set_option linter.all false
set_option maxRecDepth 100000
set_option maxHeartbeats 2000000
/-! Zf: try, what a suite asks of the error, instances, repr. -/
namespace Z
open PySem PySem.Spec PyProof.Rows L2
section
variable {K : PySem.W.Frag} {W : WX} {ρ ρ' ρ1 : List Sl} {te ta tb : TE} {t u : TS} {tr : TA} {R : Rp} {B : Bw} {o : Out} {i : Nat} {α : Type} {pre : α → Prop} {A : α → List Bw} {F : α → Res} {E : XK} {C : Addr} {n : Int}
def Out.quiet : Out → Bool
  | .xc _ _ _ => false
  | _ => true
theorem Post.anyW {W W' : WX} {D : Ends} {G : Hp} {L0 : List Cell} {o : Out} (h : o.quiet = true) (q : Post W D G L0 o) : Post W' D G L0 o := by
  cases o with
  | xc _ _ _ => cases h
  | nx _ => exact q
  | bk _ => exact q
  | ct _ => exact q
  | go _ => exact q
  | rt _ => exact q
  | ro _ => exact q
/-- the body raises nothing -/
theorem Ex.try_ok {c : Value} {ts : Addr → Value → Option Addr → TS} {tb : WX → TS} (h : ∀ W, Ex W (tb W) ρ o) (hq : o.quiet = true) : Ex W (fun D σ H => tb (wAs K c i ts W D) D σ H) ρ o :=
  ⟨fun D s q => (h _).run D s (q.anyW hq)⟩
theorem Post.slot {D : Ends} {G : Hp} {L0 : List Cell} (q : Post W D G L0 (noSlot i o)) : Post W { nx := fun σ' H' => D.nx (σ'.set i none) H', rt := D.rt, bk := fun σ' H' => D.bk (σ'.set i none) H', ct := fun σ' H' => D.ct (σ'.set i none) H' } G L0 o := by
  have key : ∀ {N : L2.St → Hp → Prop} {ρ : List Sl}, Nx N G L0 (ρ.set i .x) → Nx (fun σ' H' => N (σ'.set i none) H') G L0 ρ := fun {N ρ} k G' σ' H' e s => by
    obtain ⟨G2, e2, s2⟩ := s.set_none i
    exact k G2 _ H' (e.trans e2) s2
  cases o with
  | xc _ _ _ => exact q
  | nx _ => exact key q
  | bk _ => exact key q
  | ct _ => exact key q
  | go _ => exact ⟨key q.1, key q.2⟩
  | rt _ => exact q
  | ro _ => exact q
/-- the body raises an error of the class at C, which the clause takes -/
theorem Ex.try_x {c : Value} {ts : Addr → Value → Option Addr → TS} {tb : WX → TS} (h : ∀ W, Ex W (tb W) ρ (.xc ρ1 C n)) (hm : PySem.W.exmOne K (.ref C) c = some true)
    (hs : ∀ a d, Ex W (ts a (.ref C) (some d)) (ρ1.set i (.p (errR a d n))) o) : Ex W (fun D σ H => tb (wAs K c i ts W D) D σ H) ρ (noSlot i o) :=
  ⟨fun D s q => (h _).run D s fun G' σ' H' d e s' hd => ⟨true, hm, fun _ a ha => by
    have g := s'.grow (o := atF n) hd
    obtain ⟨G2, e2, s2⟩ := g.2.set_p (R := errR a d n) ⟨rfl, upd_same⟩ i
    exact (hs a d).run _ s2 (q.slot.mono ((e.trans g.1).trans e2)), fun z => nomatch z⟩⟩
/-! isinstance(e, C), e.at -/
/-- isinstance of the error that a suite holds, the class told in the reading -/
def rIsX (K : PySem.W.Frag) (a : Addr) (cls : Value) (d : Option Addr) : List V → Hp → VK → Prop := fun xs H Q => ∃ (C dd : Addr) (fs : List (Str × V)) (D : Addr) (b : Bool), cls = .ref C ∧ d = some dd ∧ ExcC K C ∧ H dd = some (.xd fs) ∧ xs = [.ref a, .ref D] ∧
  PySem.W.kitOne K (.ref C) (.ref D) = some b ∧ Q (.bl b) H
theorem call_isX {X : Cx} {a : Addr} {oe : Obj} {cls : Value} {d : Option Addr} {pn : List (Addr × Obj)} (hz : Zc cls d oe) (hf : ∃ vs, oe.data = .fields vs) : CallR (X.suite a ((a, oe) :: pn)) (.builtin "isinstance") (rIsX X.K a cls d) := by
  intro pins s σ H xs us Q inv r h
  obtain ⟨C, dd, fs, D, b, rfl, rfl, hC, hdd, rfl, hk, q⟩ := h
  cases r with
  | cons r1 r2 =>
    cases r2 with
    | cons r2 r3 =>
      cases r3; cases r1; cases r2
      have ho := (inv.pin (a, oe) (List.mem_append_left _ (List.mem_cons_self ..))).1
      obtain ⟨vs, hv⟩ := hf
      obtain ⟨mA, hns, _⟩ := (show ObjOk X.prog X.w H s.heap dd (.xd fs) from inv.hok dd _ hdd)
      obtain ⟨od, hod, _⟩ := lookIn_ns hns
      have inst : PySem.W.InstAt s.heap a oe C (some od) := ⟨ho, hz.1, by unfold PySem.W.notCls; rw [hv] <;> rfl, by rw [hz.2]; exact hod⟩
      have hcl : (PySem.W.clsIn X.K C).isSome = true := by
        have z := hC.hd
        unfold PySem.W.hasDictIn at z
        cases e : PySem.W.clsIn X.K C with
        | none => rw [e] at z; cases z
        | some _ => rfl
      exact PySem.W.kia_one (PySem.W.kitx_exc hcl hC.hg hC.hk hC.hs hC.ha hC.hn hC.ht hC.hm) inv.kIn inst hk (fun z => nomatch z) fun tk => ⟨.bl b, H, inv.kept (t' := tk) fun _ _ z => z, rfl, q⟩
/-- e.f of the error that a suite holds, its class told in the reading; e a name -/
def tXg (K : PySem.W.Frag) (a : Addr) (cls : Value) (d : Option Addr) (f : Str) (i : Nat) : TE := fun σ H Q => ∃ (C dd : Addr) (fs : List (Str × V)) (v : V), σ[i]? = some (some (.ref a)) ∧ cls = .ref C ∧ d = some dd ∧ XfC K C ∧
  PySem.W.findIn K (.ref C) f = some none ∧ H dd = some (.xd fs) ∧ fs.lookup f = some v ∧ Q v H
theorem pe_xg {X : Cx} {a : Addr} {oe : Obj} {cls : Value} {d : Option Addr} {pn : List (Addr × Obj)} {x n : Str} {i : Nat} {pos pos' : Pos} (hz : Zc cls d oe) (hf : ∃ vs, oe.data = .fields vs) (he : PE (X.suite a ((a, oe) :: pn)) (.Name x pos') (tVar i))
    (hb : attributeBase (.Name x pos') n X.env (eval (.Name x pos') X.env) = eval (.Name x pos') X.env := by rfl) : PE (X.suite a ((a, oe) :: pn)) (.Attribute (.Name x pos') n pos) (tXg X.K a cls d n i) := by
  refine ⟨fun pins s σ H Q inv h => ?_⟩
  obtain ⟨C, dd, fs, v, hs, rfl, rfl, hC, hno, hdd, hl, q⟩ := h
  exact (pe_xf (C := C) (n := n) hC hno hz hf he hb).run pins s σ H Q inv ⟨_, hs, rfl, rfl, dd, fs, v, rfl, hdd, hl, q⟩
theorem ev_at {a d : Addr} (hi : ρ[i]? = some (.p (errR a d n))) (hC : XfC K C) (hn : PySem.W.findIn K (.ref C) "at" = some none) : Ev (tXg K a (.ref C) (some d) "at" i) ρ (pu (dI n)) := Ev.pure fun {G σ L0 H} Q s q => by
  obtain ⟨v, e, rfl, hd⟩ := s.get_p hi
  refine ⟨C, d, _, .int n, e, rfl, rfl, hC, hn, s.same _ _ hd, by rfl, q _ _ _ (Same.refl _) s (Dq.int n)⟩
/-- the class a name stands for -/
def clsR (C : Addr) : Rp := ⟨fun _ v => v = .ref C, fun _ h => h⟩
theorem ev_cls : Ev (tC (.ref C)) ρ (pu (clsR C)) := Ev.pure fun Q s q => q _ _ _ (Same.refl _) s rfl
theorem ev_isX {a d : Addr} {D : Addr} {b : Bool} (hi : ρ[i]? = some (.p (errR a d n))) (hC : ExcC K C) (hk : PySem.W.kitOne K (.ref C) (.ref D) = some b) : Ev (tCB (rIsX K a (.ref C) (some d)) (tCons (tVar i) (tCons (tC (.ref D)) tNil))) ρ (pu (dB b)) := Ev.pure fun {G σ L0 H} Q s q => by
  obtain ⟨v, e, rfl, hd⟩ := s.get_p hi
  exact ⟨_, e, C, d, _, D, b, rfl, rfl, hC, s.same _ _ hd, rfl, hk, q _ _ _ (Same.refl _) s (Dq.bl b)⟩
/-! ### instances -/
inductive Flds (G : Hp) : List (Str × V) → List (Str × Rp) → Prop
  | nil : Flds G [] []
  | cons {f : Str} {v : V} {R : Rp} {fv fs} : R.p G v → Flds G fv fs → Flds G ((f, v) :: fv) ((f, R) :: fs)
theorem Flds.up {G G' : Hp} (e : Same G G') : ∀ {fv fs}, Flds G fv fs → Flds G' fv fs
  | _, _, .nil => .nil
  | _, _, .cons h t => .cons (Rp.up _ e h) (t.up e)
theorem Flds.get {G : Hp} {f : Str} {R : Rp} : ∀ {fv fs}, Flds G fv fs → fs.lookup f = some R → ∃ v, fv.lookup f = some v ∧ R.p G v
  | _, _, .nil, h => by cases h
  | _, _, .cons (f := g) (v := v) (R := R') (fs := fs) q t, h => by
    unfold List.lookup at h ⊢
    cases e : f == g with
    | true =>
      rw [e] at h
      cases h
      exact ⟨v, rfl, q⟩
    | false =>
      rw [e] at h
      exact t.get h
theorem Flds.no {G : Hp} {f : Str} : ∀ {fv fs}, Flds G fv fs → fs.lookup f = none → fv.lookup f = none
  | _, _, .nil, _ => rfl
  | _, _, .cons (f := g) (fs := fs) q t, h => by
    unfold List.lookup at h ⊢
    cases e : f == g with
    | true => rw [e] at h; cases h
    | false =>
      rw [e] at h
      exact t.no h
/-- an instance that stays -/
def insR (C : Addr) (fs : List (Str × Rp)) : Rp := ⟨fun G v => ∃ a dx fv, v = .ref a ∧ G a = some (.ins C dx fv) ∧ Flds G fv fs, fun e h => by
  obtain ⟨a, dx, fv, h1, h2, h3⟩ := h
  exact ⟨a, dx, fv, h1, e _ _ h2, h3.up e⟩⟩
/-- an instance that is being made -/
def oI (C a : Addr) (fs : List (Str × Rp)) : Op := ⟨fun G b cs => ∃ dx fv, b = a ∧ cs = [(a, HO.ins C dx fv)] ∧ Flds G fv fs, fun e h => by
  obtain ⟨dx, fv, h0, h1, h3⟩ := h
  exact ⟨dx, fv, h0, h1, h3.up e⟩⟩
theorem ev_fld {f : Str} {fs : List (Str × Rp)} (h : Ev te ρ (pu (insR C fs))) (hf : fs.lookup f = some R) (c : Cls K C) (hn : NoAttr K C f) : Ev (tFld K te f) ρ (pu R) := Ev.pure fun {G σ L0 H} Q s q => h.atp s fun G1 H1 v e1 s1 r => by
  obtain ⟨a, dx, fv, rfl, ha, hfl⟩ := r
  obtain ⟨w, hw, rw⟩ := hfl.get hf
  exact ⟨a, C, dx, fv, w, rfl, s1.same _ _ ha, c, hn, hw, q G1 H1 w e1 s1 rw⟩
/-- self.f = e in an __init__, self in slot i -/
theorem putF_new {f : Str} {v : V} : ∀ {fv : List (Str × V)}, fv.lookup f = none → putF f v fv = fv ++ [(f, v)]
  | [], _ => rfl
  | (g, w) :: fv, h => by
    unfold List.lookup at h
    cases e : f == g with
    | true => rw [e] at h; cases h
    | false =>
      rw [e] at h
      have hne : ¬ g = f := fun z => by rw [z] at e; simp at e
      show (if g = f then _ else _) = _
      rw [if_neg hne, putF_new h]
      rfl
theorem flds_app {G : Hp} {f : Str} {v : V} {R : Rp} (r : R.p G v) : ∀ {fv fs}, Flds G fv fs → Flds G (fv ++ [(f, v)]) (fs ++ [(f, R)])
  | _, _, .nil => .cons r .nil
  | _, _, .cons q t => .cons q (flds_app r t)
theorem flds_len {G : Hp} : ∀ {fv fs}, Flds G fv fs → fv.length = fs.length
  | _, _, .nil => rfl
  | _, _, .cons _ t => by simp [flds_len t]
theorem Ex.setfld {a : Addr} {f : Str} {fs : List (Str × Rp)} (hi : ρ[i]? = some (.o (oI C a fs))) (he : Ev te ρ (pu R)) (hf : fs.lookup f = none) (hz : fs.length < 1000) (c : Cls K C) (hn : NoAttr K C f) : Ex W (sFld K (tVar i) te f) ρ (.nx (ρ.set i (.o (oI C a (fs ++ [(f, R)]))))) := ⟨fun {G σ L0 H} D s q => he.atp s fun G1 H1 v e1 s1 r => by
  obtain ⟨a', cs, e, ⟨dx, fv, ha, hcs, hfl⟩, hh, k1, _⟩ := s1.get_o hi
  subst hcs ha
  refine ⟨_, e, _, C, dx, fv, rfl, hh _ (List.mem_cons_self ..), c, hn, by rw [flds_len hfl]; exact hz, ?_⟩
  rw [putF_new (hfl.no hf)]
  exact q G1 _ _ e1 (k1 (oI C _ (fs ++ [(f, R)])) [(_, .ins C dx (fv ++ [(f, v)]))] _ ⟨dx, _, rfl, rfl, flds_app r hfl⟩ fun M l => l.store)⟩
end
/-- what __init__ promises: fields F, or an error; its further arguments by A -/
inductive IRes where
  | ok (fs : List (Str × Rp)) | err (C : Addr) (n : Int)
def SpI {α : Type} (C : Addr) (pre : α → Prop) (A : α → List Bw) (F : α → IRes) : Sp := fun vs H Q E => ∃ x G L a dx ws, pre x ∧ vs = V.ref a :: ws ∧ Lay G ((a, HO.ins C dx []) :: L) H ∧ AllB G L ws (A x) ∧
  match F x with
  | .ok fs => ∀ G' H' dx fv, Same G G' → Lay G' ((a, HO.ins C dx fv) :: L) H' → Flds G' fv fs → Q .non H'
  | .err D n => ∀ G' H' d, Same G G' → Lay G' L H' → H' d = none → E (.ref D) (some d) (upd H' d (atF n))
section
variable {K : PySem.W.Frag} {W : WX} {ρ ρ' ρ1 : List Sl} {te ta tb : TE} {t u : TS} {tr : TA} {R : Rp} {B : Bw} {o : Out} {i : Nat} {α : Type} {pre : α → Prop} {A : α → List Bw} {F : α → IRes} {E : XK} {C D : Addr} {n : Int}
theorem SpI.len {m : Nat} (h : ∀ x, (A x).length = m) : ∀ vs H Q E, SpI C pre A F vs H Q E → vs.length = m + 1 := fun vs H Q E ⟨x, G, L, a, dx, ws, _, e, _, al, _⟩ => by
  rw [e, List.length_cons, allB_len al, h]
def stI (C a : Addr) (Bs : List Bw) (k : Nat) : List Sl := .o (oI C a []) :: (Bs.map Sl.b ++ List.replicate k Sl.x)
theorem SpI.run {vs : List V} {H : Hp} {Q : VK} {t : TS} {N : List Str} {m : Nat} (h : SpI C pre A F vs H Q E) (hm : ∀ x, (A x).length = m)
    (hx : ∀ x a, pre x → (∃ fs ρ, F x = .ok fs ∧ ρ[0]? = some (.o (oI C a fs)) ∧ Ex (WofE E) t (stI C a (A x) (N.length - (m + 1))) (.nx ρ)) ∨
      ∃ D n ρ, F x = .err D n ∧ Ex (WofE E) t (stI C a (A x) (N.length - (m + 1))) (.xc ρ D n)) : t { nx := fun _ H' => Q .non H', rt := Q } (L2.start N vs) H := by
  obtain ⟨x, G, L, a, dx, ws, hp, rfl, la, al, r⟩ := h
  have hl : ws.length = m := by rw [allB_len al, hm]
  have sl : Slots G L (L2.start N (V.ref a :: ws)) (stI C a (A x) (N.length - (m + 1))) [(a, HO.ins C dx [])] := by
    unfold L2.start
    rw [List.length_cons, hl]
    exact .o (O := oI C a []) (cs := [(a, HO.ins C dx [])]) ⟨dx, [], rfl, rfl, .nil⟩ (slots_start _ al)
  have st : Stt G (stI C a (A x) (N.length - (m + 1))) (L2.start N (V.ref a :: ws)) L H := ⟨_, sl, la⟩
  rcases hx x a hp with ⟨fs, ρ, hF, h0, ex⟩ | ⟨D, n, ρ, hF, ex⟩
  · rw [hF] at r
    refine ex.run _ st fun G' σ' H' e s => ?_
    obtain ⟨L', sl', la'⟩ := id s
    obtain ⟨a', cs, M, e1, ⟨dx', fv, ha, hcs, hfl⟩, pm, _⟩ := sl'.get_o h0
    subst ha hcs
    have l2 : Lay G' (M ++ ([(_, HO.ins C dx' fv)] ++ L)) H' := la'.perm (by
      refine (pm.append_right L).trans ?_
      rw [List.append_assoc]
      exact perm_swap _ _ _)
    obtain ⟨G2, e2, l3, _⟩ := l2.freezeAll
    exact r G2 H' dx' fv (e.trans e2) l3 (hfl.up e2)
  · rw [hF] at r
    refine ex.run _ st fun G' σ' H' d e s hd => ?_
    obtain ⟨G2, e2, l2⟩ := s.fin
    exact r G2 H' d (e.trans e2) l2 hd
/-- C(..) -/
theorem ev_make {fs : List (Str × Rp)} (x : α) (ha : EvA tr ρ (A x)) (hp : pre x) (hF : F x = .ok fs) : Ev (tMake C (SpI C pre A F) [] E tr) ρ (pu (insR C fs)) := Ev.pure fun {G σ L0 H} Q s q => ha.at s fun G1 H1 vs L e1 sl la r => fun y dx hy hd hne => by
  have g := same_upd (o := .own y) (la.freshG hd)
  have l1 : Lay (upd G1 dx (.own y)) (L ++ L0) (upd H1 dx (.own y)) := la.grow hd
  have hy1 : upd H1 dx (.own y) y = none := by rw [upd_ne (fun z => hne z.symm)]; exact hy
  have ab : ∀ {vs : List V} {Bs : List Bw}, AllB G1 (L ++ L0) vs Bs → AllB (upd G1 dx (.own y)) (L ++ L0) vs Bs := fun {vs Bs} h => by
    induction h with
    | nil => exact .nil
    | cons h _ ih => exact .cons (Bw.up _ g (fun _ z => z) h) ih
  refine ⟨x, upd G1 dx (.own y), L ++ L0, y, dx, vs, hp, by rw [List.append_nil], l1.cell hy1, ab r, ?_⟩
  rw [hF]
  refine fun G' H' dx' fv e2 l2 hfl => ⟨rfl, ?_⟩
  have hG : G' y = none := (l2.on _ (List.mem_cons_self ..)).2
  have e3 := same_upd (o := HO.ins C dx' fv) hG
  exact q _ H' (.ref y) ((e1.trans (g.trans e2)).trans e3) ⟨L, sl.up ((g.trans e2).trans e3), l2.freeze⟩ ⟨y, dx', fv, rfl, upd_same, hfl.up e3⟩
theorem ex_make (x : α) (ha : EvA tr ρ (A x)) (hp : pre x) (hF : F x = .err D n) : EvX (WofE E) (tMake C (SpI C pre A F) [] E tr) ρ D n := ⟨fun {G σ L0 H} Q s q => ha.at s fun G1 H1 vs L e1 sl la r => fun y dx hy hd hne => by
  have g := same_upd (o := .own y) (la.freshG hd)
  have l1 : Lay (upd G1 dx (.own y)) (L ++ L0) (upd H1 dx (.own y)) := la.grow hd
  have hy1 : upd H1 dx (.own y) y = none := by rw [upd_ne (fun z => hne z.symm)]; exact hy
  have ab : ∀ {vs : List V} {Bs : List Bw}, AllB G1 (L ++ L0) vs Bs → AllB (upd G1 dx (.own y)) (L ++ L0) vs Bs := fun {vs Bs} h => by
    induction h with
    | nil => exact .nil
    | cons h _ ih => exact .cons (Bw.up _ g (fun _ z => z) h) ih
  refine ⟨x, upd G1 dx (.own y), L ++ L0, y, dx, vs, hp, by rw [List.append_nil], l1.cell hy1, ab r, ?_⟩
  rw [hF]
  exact fun G' H' d e2 l2 hd' => q G' H' d (e1.trans (g.trans e2)) ⟨L, sl.up (g.trans e2), l2⟩ hd'⟩
/-- o.m(..) -/
theorem ev_meth {A : α → List Bw} {F : α → Res} {fs : List (Str × Rp)} {m : Str} {B0 : α → Bw} (x : α) (h0 : Ev te ρ (pu (insR C fs))) (hm : fs.lookup m = none) (ha : EvA tr ρ (A x)) (hB : ∀ G L v, (insR C fs).p G v → (B0 x).p G L v) (hp : pre x) (hR : F x = .ok R) :
    Ev (tMeth C m (SpA pre (fun x => B0 x :: A x) F) [] E te tr) ρ (pu R) := Ev.pure fun {G σ L0 H} Q s q => h0.atp s fun G0 H0 v e0 s0 r0 => by
  obtain ⟨a, dx, fv, rfl, hH, hfl⟩ := id r0
  refine ⟨a, dx, fv, rfl, s0.same _ _ hH, hfl.no hm, ?_⟩
  refine ha.at s0 fun G1 H1 vs L e1 sl la r => ?_
  refine ⟨x, G1, L ++ L0, hp, la, by rw [List.append_nil]; exact .cons (hB _ _ _ ((insR C fs).up e1 r0)) r, ?_⟩
  rw [hR]
  exact fun G2 H2 v e2 l2 rv => q G2 H2 v ((e0.trans e1).trans e2) ⟨L, sl.up e2, l2⟩ rv
theorem en_meth {A : α → List Bw} {F : α → Res} {fs : List (Str × Rp)} {m : Str} {B0 : α → Bw} {ds : List PyData} (x : α) (h0 : Ev te ρ (pu (insR C fs))) (hm : fs.lookup m = none) (ha : EvA tr ρ (A x)) (hB : ∀ G L v, (insR C fs).p G v → (B0 x).p G L v) (hp : pre x) (hR : F x = .own (oL ds)) :
    EvN (tMeth C m (SpA pre (fun x => B0 x :: A x) F) [] E te tr) ρ ds := ⟨fun {G σ L0 H} Q s q => h0.atp s fun G0 H0 v e0 s0 r0 => by
  obtain ⟨a, dx, fv, rfl, hH, hfl⟩ := id r0
  refine ⟨a, dx, fv, rfl, s0.same _ _ hH, hfl.no hm, ?_⟩
  refine ha.at s0 fun G1 H1 vs L e1 sl la r => ?_
  refine ⟨x, G1, L ++ L0, hp, la, by rw [List.append_nil]; exact .cons (hB _ _ _ ((insR C fs).up e1 r0)) r, ?_⟩
  rw [hR]
  intro G2 H2 a2 cs e2 l2 ro
  obtain ⟨ws, hcs, d⟩ := ro
  subst hcs
  obtain ⟨H3, hn3, rfl, l3⟩ := Lay.uncell l2
  exact q G2 H3 _ ws ((e0.trans e1).trans e2) ⟨L, sl.up e2, l3⟩ hn3 d⟩
theorem ex_meth {A : α → List Bw} {F : α → Res} {fs : List (Str × Rp)} {m : Str} {B0 : α → Bw} (x : α) (h0 : Ev te ρ (pu (insR C fs))) (hm : fs.lookup m = none) (ha : EvA tr ρ (A x)) (hB : ∀ G L v, (insR C fs).p G v → (B0 x).p G L v) (hp : pre x) (hR : F x = .err D n) :
    EvX (WofE E) (tMeth C m (SpA pre (fun x => B0 x :: A x) F) [] E te tr) ρ D n := ⟨fun {G σ L0 H} Q s q => h0.atp s fun G0 H0 v e0 s0 r0 => by
  obtain ⟨a, dx, fv, rfl, hH, hfl⟩ := id r0
  refine ⟨a, dx, fv, rfl, s0.same _ _ hH, hfl.no hm, ?_⟩
  refine ha.at s0 fun G1 H1 vs L e1 sl la r => ?_
  refine ⟨x, G1, L ++ L0, hp, la, by rw [List.append_nil]; exact .cons (hB _ _ _ ((insR C fs).up e1 r0)) r, ?_⟩
  rw [hR]
  exact fun G2 H2 d e2 l2 hd => q G2 H2 d ((e0.trans e1).trans e2) ⟨L, sl.up e2, l2⟩ hd⟩
end
end Z

set_option Elab.async false
set_option linter.all false
set_option maxRecDepth 100000
set_option maxHeartbeats 2000000
/-! Zg: calls that may raise within a try, repr, the law's own call. -/
namespace Z
open PySem PySem.Spec PyProof.Rows L2
theorem pass_no {X : Cx} : Passes (L2.CX X.prog X.w) X (fun _ _ _ => False) := fun pins σ H s e s' inv c => by
  obtain ⟨a, B, H', cls, d, _, _, _, _, _, _, _, z⟩ := c
  exact z.elim
section
variable {X : Cx} {CX : CXT} {k : Nat} {f C : Addr} {fd : FuncData} {ps : List Str} {sp : Sp} {E : L2.St → XK} {x m : Str} {p pos apos : Pos} {e o : Expr} {es : List Expr} {ta : TE} {t : TA}
/-- C(..) in a try: what is raised is wished for at the slots of the call -/
def tMakeS (C : Addr) (sp : Sp) (E : L2.St → XK) (t : TA) : TE := fun σ H Q => t σ H fun vs H1 => ∀ y dy, H1 y = none → H1 dy = none → dy ≠ y → sp (.ref y :: vs) (upd (upd H1 dy (.own y)) y (.ins C dy [])) (fun v H2 => v = .non ∧ Q (.ref y) H2) (E σ)
theorem pe_makeS (M : Mk X.K C f) (F : FnOk X.prog X.w X.K X.mg X.base CX k f fd ps sp) (hr : Room (k + 1) X.A) (hg : Gl X x) (hm : X.mg x = some (.ref C)) (hb : Binds X.K fd ps []) (hx : ∀ σ, PassesAt CX X σ (E σ))
    (ha : PA X (e :: es) t) (hdb : (x == ("__debug__" : Str)) = false := by decide) (he : starEach (e :: es) X.env = (false, eval e X.env) :: starEach es X.env := by rfl) (hpl : (backTo pos (starEach es X.env)).any (·.1) = false := by rfl) :
    PE X (.Call (.Name x p) (e :: es) [] pos) (tMakeS C sp E t) := by
  refine ⟨fun pins s σ H Q inv h => wpAny_Call_Name_kw (ld_glob inv hg hm ?_ hdb)⟩
  refine PySem.W.callWith_K (h₀ := X.base) inv.ok.mod.kin M.kp (thn (ha.run pos pins s σ H _ inv h) fun us s1 got => ?_) he hpl
  obtain ⟨vs, H1, J, r, q⟩ := got
  refine ⟨J.kIn, ?_⟩
  let n := s1.heap.objs.size
  have hq := q (n + 1) n (J.hok.fresh (Nat.le_succ _)) (J.hok.fresh (Nat.le_refl _)) (Nat.ne_of_lt (Nat.lt_succ_self _))
  have J2 := Inv.made (C := C) J
  have hlen : (Value.ref (n + 1) :: us).length = ps.length := by
    have e1 : (V.ref (n + 1) :: vs).length = ps.length := F.len _ _ _ _ hq
    rw [List.length_cons, ← r.length]
    rw [List.length_cons] at e1
    exact e1
  have bind := hb _ (Value.ref (n + 1) :: us) J2.kIn (by rw [List.append_nil]; exact hlen)
  rw [List.append_nil] at bind
  have rel : Vals (V.ref (n + 1) :: vs) (Value.ref (n + 1) :: us) := .cons rfl r
  have go := F.run _ X.stack _ _ ⟨Value.ref (n + 1) :: us, []⟩ _ _ _ (E σ) (hr.make C us []) (J2.env0.make C us []) bind rel hq
  refine wpAny_call (make_map (f := f) J.kIn M.makes M.init (beq_iff_eq.mp M.fn) (codeAny_mono go fun res s' hres => ?_))
  match res, hres with
  | .error ex, hres => exact hx σ pins _ _ ex s' J2 hres
  | .ok (.ret u), hres =>
    obtain ⟨v, H', J3, rv, ev, q3⟩ := J2.after hres
    subst ev
    exact ⟨rv, V.ref (n + 1), H', J3, rfl, q3⟩
  | .ok .next, hres => exact hres.elim
  | .ok .brk, hres => exact hres.elim
  | .ok .cont, hres => exact hres.elim
/-- o.m(..) in a try -/
def tMethSx (C : Addr) (m : Str) (sp : Sp) (E : L2.St → XK) (ta : TE) (t : TA) : TE := fun σ H Q => ta σ H fun x H1 => ∃ a dx fs, x = .ref a ∧ H1 a = some (.ins C dx fs) ∧ fs.lookup m = none ∧ t σ H1 fun vs H2 => sp (x :: vs) H2 Q (E σ)
theorem pe_methSx {pl : Sem Bool} (ho : PE X o ta) (c : Cls X.K C) (hm : Meth X.K C m f) (F : FnOk X.prog X.w X.K X.mg X.base CX k f fd ps sp) (hr : Room k X.A) (hb : Binds X.K fd ps []) (hx : ∀ σ, PassesAt CX X σ (E σ)) (ha : PA X (e :: es) t)
    (he : starEach (e :: es) X.env = (false, eval e X.env) :: starEach es X.env := by rfl) (hpl : (backTo pos (starEach es X.env)).any (·.1) = false := by rfl)
    (ht : eval (.Call (.Attribute o m apos) (e :: es) [] pos) X.env = (do
      let w ← eval o X.env
      standAt apos.atName
      let (g, first) ← holding [w] (getMethod w m pl)
      callWith pos g first (backTo pos (starEach (e :: es) X.env)) (backToKw pos (keywordEach [] X.env))) := by rfl) :
    PE X (.Call (.Attribute o m apos) (e :: es) [] pos) (tMethSx C m sp E ta t) := by
  refine ⟨fun pins s σ H Q inv h => PySem.W.methodCall_KW (pl := pl) (thn (ho.run pins s σ H _ inv h) fun u s1 got => ?_) ht⟩
  obtain ⟨x, H1, J, rx, a, dx, fs, rfl, hHa, hl, q⟩ := got
  cases rx
  refine getmeth_ok J hHa c hm hl ?_
  refine PySem.W.callWith_K (first := [.ref a]) (h₀ := X.base) J.ok.mod.kin hm.kp (thn (ha.run pos pins s1 σ H1 _ J q) fun us s2 got => ?_) he hpl
  obtain ⟨vs, H2, J2, r, q2⟩ := got
  exact ⟨J2.kIn, run_fnS (us := .ref a :: us) (vs := .ref a :: vs) F hr hb (hx σ) J2 (.cons rfl r) q2⟩
/-- repr of data, where no repr is under way -/
abbrev cRepr : List V → Hp → VK → Prop := fun xs H Q => ∃ a d, xs = [.ref a] ∧ Dq H (.ref a) d ∧ d.showable = true ∧ d.hasDict = false ∧ d.depth ≤ 60 ∧ d.shown.length ≤ sizeLine ∧ Q (.str d.shown) H
theorem call_repr (hgd : X.A.guards = some []) (hu : X.A.units + 70 < cLine) : CallR X (.builtin "repr") cRepr := by
  intro pins s σ H xs us Q inv r h
  obtain ⟨a, d, rfl, hd, h1, h2, h3, h4, q⟩ := h
  cases r with
  | cons r1 r2 =>
    cases r2; cases r1
    obtain ⟨as, rd⟩ := L2.Dp.reads inv d _ _ (dq_dp (K := X.K) hd) rfl
    refine repr_of_reads' rd h1 (fun z => by rw [h2] at z; cases z) hgd (by omega) (fun _ _ e => e) (fun h' u tk hk => ?_) h4
    exact ⟨.str d.shown, H, inv.kept (t' := tk) hk, ⟨u, rfl⟩, q⟩
end
/-! ### the law's own call: nothing runs around it -/
/-- a def's promise where the law is called -/
def RunAt (P : Program) (w : World) (K : PySem.W.Frag) (mg : Str → Option Value) (base : Heap) (CX : CXT) (k : Nat) (f : Addr) (fd : FuncData) (ps : List Str) (sp : Sp) : Prop :=
  ∀ (s : Shared) (H : Hp) (args : Args) (us : List Value) (vs : List V) (Q : VK) (E : XK), Room k callerA → Env0 P w K mg base callerA [] s H → BindsTo s fd args (ps.zip us) → Vals vs us → sp vs H Q E →
    codeAny (model P w) callerA (.call (.ref f) args) (CR CX [] P w H s Q E) s
/-- the script, where it is no object of the text: known to its object -/
def scriptH (K : PySem.W.Frag) (a : Addr) (o : Obj) (xs : List V) : Hp := fun b => if b = a ∧ K.lookup a = none then some (.frz o (.lst xs)) else none
theorem run_law {P : Program} {w : World} {K : PySem.W.Frag} {mg mb : Str → Option Value} {CX : CXT} {k : Nat} {f a : Addr} {fd : FuncData} {x : Str} {sp : Sp} {s : Shared} {us : List Value} {ns : List Int}
    (kin : K.In s.heap) (glob : s.heap.Ns mainGlobals mg) (blt : s.heap.Ns builtinsNs mb) (bltIs : ∀ x : Str, x ≠ "__name__" → mb x = bootBuiltins x) (lim : s.heap.NoLimit) (gens : s.gens = #[])
    (there : s.heap.get? a = some { cls := .type "list", data := .seq us.toArray }) (isInts : IntsAre us ns) (small : ns.length ≤ sizeLine) (hr : Room k callerA)
    (F : ∀ base : Heap, K.In base → base.Ns mainGlobals mg → RunAt P w K mg base CX k f fd [x] sp) (binds : ∀ (s : Shared) (u : Value), BindsTo s fd ⟨[u], []⟩ [(x, u)])
    (hsp : ∀ H : Hp, SqL K H a (ns.map V.int) → sp [.ref a] H (fun v _ => v = .bl true) fun _ _ _ => False) (hCX : ∀ H e s', CX [] H s (fun _ _ _ => False) e s' → False) :
    codeAny (model P w) callerA (.call (.ref f) ⟨[.ref a], []⟩) (fun r s' => r = .ok (.ret (.bool true)) ∧ OldK s.heap s'.heap ∧ s'.os = s.os ∧ AllBare s'.gens) s := by
  have rel : Vals (ns.map V.int) us := vals_ints isInts
  have lenU : us.length = ns.length := isInts.length
  let o : Obj := { cls := .type "list", data := .seq us.toArray }
  let H := scriptH K a o (ns.map V.int)
  have Hat : ∀ b u, H b = some u → b = a ∧ K.lookup a = none ∧ u = .frz o (.lst (ns.map V.int)) := fun b u e => by
    have e : (if b = a ∧ K.lookup a = none then some (HO.frz o (.lst (ns.map V.int))) else none) = some u := e
    by_cases h : b = a ∧ K.lookup a = none
    · rw [if_pos h] at e
      exact ⟨h.1, h.2, (Option.some.inj e).symm⟩
    · rw [if_neg h] at e
      cases e
  have sq : SqL K H a (ns.map V.int) := by
    cases e : K.lookup a with
    | none => exact .inl (.inr ⟨o, if_pos ⟨rfl, e⟩⟩)
    | some q =>
      have z := kin a q e
      rw [there] at z
      cases z
      exact .inr ⟨_, us.toArray, _, e, rfl, rfl, rfl, by rw [List.size_toArray, lenU]; exact small, by simpa using rel⟩
  have hok : HOk P w H s.heap := fun b u e => by
    obtain ⟨rfl, _, rfl⟩ := Hat b u e
    exact ⟨there, by rw [List.length_map]; exact small, us, _, rel, there⟩
  have away : ∀ {b : Addr} {q : Obj}, K.lookup b = some q → H b = none := fun {b q} e => by
    cases z : H b with
    | none => rfl
    | some u =>
      obtain ⟨rfl, h, _⟩ := Hat b u z
      rw [h] at e
      cases e
  have dict : ∀ {b : Addr} {m : Str → Option Value}, s.heap.Ns b m → (hidT s.heap H).Ns b m := fun {b m} ⟨q, es, ep, e, d, r⟩ => by
    refine ⟨q, es, ep, hidT_get e ?_, d, r⟩
    cases z : H b with
    | none => rfl
    | some u =>
      obtain ⟨rfl, _, _⟩ := Hat b u z
      rw [there] at e
      cases e
      have d : Data.seq us.toArray _ = Data.dict es ep := d
      cases d
  have kinB : K.In (hidT s.heap H) := fun b q e => hidT_get (kin b q e) (away e)
  obtain ⟨mc, c1, c2⟩ := lim
  have env : Env0 P w K mg (hidT s.heap H) callerA [] s H :=
    { frames := rfl, mod := ⟨kinB, dict glob, ⟨mb, dict blt, bltIs⟩, ⟨mc, dict c1, c2⟩⟩, bs := fun b q e => of_hidT e, bsz := Nat.le_of_eq (hidT_size _ _), funs := trivial, frf := fun b hb => (by cases (show b ∈ ([] : List Addr) from hb)), hok := hok, bare := .of_eq gens }
  refine codeAny_mono (F _ kinB (dict glob) s H ⟨[.ref a], []⟩ [.ref a] [.ref a] _ _ hr env (binds s (.ref a)) (.cons rfl .nil) (hsp H sq)) fun r s' h => ?_
  match r, h with
  | .error e, h => exact (hCX H e s' h).elim
  | .ok .next, h => exact h.elim
  | .ok .brk, h => exact h.elim
  | .ok .cont, h => exact h.elim
  | .ok (.ret u), h =>
    obtain ⟨v, H', os, bare, un, hok', rv, q⟩ := h
    have q : v = .bl true := q
    subst q
    cases rv
    refine ⟨rfl, OldK.of_keep fun b q e => ?_, os, bare⟩
    cases z : H b with
    | none => exact un.keep b q e z (fun m => by cases (show b ∈ ([] : List Addr) from m)) (by simp)
    | some u =>
      obtain ⟨rfl, _, rfl⟩ := Hat b u z
      obtain ⟨e2, _⟩ := hok' _ _ (un.frzs _ _ _ z)
      rw [e] at there
      cases there
      exact e2
/-- the goal behind the head, from the law's promise where it is called -/
theorem walk_at {l : PySem.W.OpenLaw} {n k : Nat} {q : Program} {loose : List Str} {XP : (Str → Option Value) → Heap → Prop} {YP : World → Heap → Prop} {d : DefRec} {K : Params → PySem.W.Frag} {CX : World → CXT} {sp : World → Sp} {x : Str}
    (hn : l.most = some n) (hn2 : n ≤ sizeLine) (hdf : d.params.defaults = []) (hr : Room k callerA) (hY : ∀ (w : World) (h : Heap), YP w h → (K w.params).In h)
    (F : ∀ (w : World) (mg : Str → Option Value) (fa : Addr) (h : Heap), (K w.params).In h → h.Ns mainGlobals mg → mg d.name = some (.ref fa) →
      ∃ fd : FuncData, (∀ (s : Shared) (u : Value), BindsTo s fd ⟨[u], []⟩ [(x, u)]) ∧ ∀ base : Heap, (K w.params).In base → base.Ns mainGlobals mg → RunAt l.prog w (K w.params) mg base (CX w) k fa fd [x] (sp w))
    (hsp : ∀ (w : World) (H : Hp) (a : Addr) (ns : List Int), ns.length ≤ n → SqL (K w.params) H a (ns.map V.int) → sp w [.ref a] H (fun v _ => v = .bl true) fun _ _ _ => False)
    (hCX : ∀ (w : World) (H : Hp) (s : Shared) (e : Value) (s' : Shared), CX w [] H s (fun _ _ _ => False) e s' → False) : PySem.W.WalkO q loose XP YP l.row.toRowW d [] (fun f vs => PySem.call f vs) := by
  refine Att.attach_call hn hdf fun w s₀ s₁ mg mb fa o pm cd doc a vs ns G Y ho hd hcd hmg hobj hints hlen hg => ?_
  have kin := hY w _ Y
  obtain ⟨fd, hb, hF⟩ := F w mg fa _ kin G.T.g hmg
  exact run_law kin G.T.g G.T.b G.T.builtins G.T.nolimit hg hobj hints (Nat.le_trans hlen hn2) hr hF hb (fun H hS => hsp w H a ns hlen hS) fun H e s' => hCX w H s₁ e s'
/-- the law's def at its call: its body, with nothing under way -/
theorem fun_at {P : Program} {w : World} {K : PySem.W.Frag} {mg : Str → Option Value} {base : Heap} {x qual : Str} {st : Stmt} {f : Addr} {fd : FuncData} {N ps : List Str} {k : Nat} {sp : Sp} (F : Fun K x qual st f fd) (S : FnScope N ps (defScope st))
    (len : ∀ vs H Q E, sp vs H Q E → vs.length = ps.length)
    (body : ∀ (cdv : Value) (s : Shared) (H : Hp) (vs : List V) (Q : VK) (E : XK), Room k (callerA.deeper (envOfC qual (defScope st) s.heap.objs.size f cdv)) → (callerA.deeper (envOfC qual (defScope st) s.heap.objs.size f cdv)).guards = some [] → sp vs H Q E →
      ∃ t, PSs (cxOf (L2.CX P w) P w K mg base N qual (defScope st) f cdv callerA [] s H E) (defBody st) t ∧ t { nx := fun _ H' => Q .non H', rt := Q } (L2.start N vs) H) : RunAt P w K mg base (L2.CX P w) (k + 1) f fd ps sp := by
  obtain ⟨oc, od, kV, doc, pm, an, cdv, ct, osl, rfl, lk, hcd⟩ := F.ex
  intro s H args us vs Q E hr env bind rel hsp
  have lens := len _ _ _ _ hsp
  have kin : K.In s.heap := env.mod.kin.keeps fun b o e => (env.bs b o e).1
  have lim : s.heap.NoLimit := env.mod.nolimit.keeps fun b o e => (env.bs b o e).1
  have kinds : ∀ y ∈ ps.zip us, (defScope st).names.lookup y.1 = some .local ∨ ((defScope st).names.lookup y.1 = some .cell ∧ ((cellsFrom (s.heap.objs.size + 1) (defScope st).names []).lookup y.1).isSome = true) := by
    rintro ⟨n, v⟩ hy
    exact (S.par n (List.of_mem_zip hy).1).imp id fun z => ⟨z, PySem.W.cellsFrom_some _ _ _ (.inl z)⟩
  obtain ⟨t, ht, hq⟩ := body cdv s H vs Q E (hr.deeper _) rfl hsp
  refine codeAny_call_function hr.depth (kin _ _ lk) rfl S.co S.gen rfl (PySem.W.codeRec_of kin hcd) (bind _ _ _ _ ?_)
  refine wpAny_newFunctionEnv_cells S.kind kinds fun e he s1 new => ?_
  subst he
  refine ⟨lim.keeps new.toInCall.keep, codeAny_func ?_⟩
  have inv : Inv (cxOf (L2.CX P w) P w K mg base N qual (defScope st) f cdv callerA [] s H E) [] (L2.start N vs) H s1 := inv_start S hr.hd env lens rel new
  refine wpAny_mono (ht.run [] s1 _ H _ inv hq) (fun fl s' got => ?_) fun e s' got => got
  match fl, got with
  | .ret u, ⟨v, σ', H', J, rv, q⟩ => exact ⟨v, H', J.os, J.bare, J.base, J.hok, rv, q⟩
  | .next, ⟨σ', H', J, q⟩ => exact ⟨.non, H', J.os, J.bare, J.base, J.hok, rfl, q⟩
  | .brk, ⟨σ', H', J, q⟩ => exact q.elim
  | .cont, ⟨σ', H', J, q⟩ => exact q.elim
end Z

set_option Elab.async false
set_option linter.all false
set_option maxRecDepth 100000
set_option maxHeartbeats 2000000
/-! Zh: data arguments, told-of-some values, handing over. -/
namespace Z
open PySem PySem.Spec PyProof.Rows L2
section
variable {K : PySem.W.Frag} {W : WX} {ρ ρ' ρ1 : List Sl} {te ta tb : TE} {t u : TS} {tr : TA} {R : Rp} {B Ba Bb : Bw} {o : Out} {i j : Nat} {E : XK} {C : Addr} {n : Int}
/-- arguments that are data -/
structure EvD (ta : TA) (ρ : List Sl) (ds : List PyData) : Prop where
  all : EvA ta ρ (ds.map fun d => pu (dat d))
theorem ed_nil : EvD tNil ρ [] := ⟨ea_nil⟩
theorem ed_cons {d : PyData} {ds : List PyData} (h : Ev te ρ (pu (dat d))) (t : EvD tr ρ ds) : EvD (tCons te tr) ρ (d :: ds) := ⟨ea_cons h t.all⟩
theorem ev_tupD {ds : List PyData} (h : EvD tr ρ ds) (hl : ds.length ≤ 1000) : Ev (tTup tr) ρ (pu (dat (.tuple ds))) := ev_tup h.all hl
theorem en_lstD {ds : List PyData} (h : EvD tr ρ ds) (hl : ds.length ≤ 1000) : EvN (tLst tr) ρ ds := en_lst h.all hl
/-- a list that stays is a list -/
theorem Op2.l {r : R2} {ds : List PyData} (h : Op2 r (bL ds) Bb R) : Op2 r (pu (dat (.list ds))) Bb R := fun G H L x y Q l hx hy q => h G H L x y Q l (bl_of_dat _ _ _ hx) hy q
theorem Op2.r {r : R2} {ds : List PyData} (h : Op2 r Ba (bL ds) R) : Op2 r Ba (pu (dat (.list ds))) R := fun G H L x y Q l hx hy q => h G H L x y Q l hx (bl_of_dat _ _ _ hy) q
theorem Op2N.l {r : R2} {ds es : List PyData} (h : Op2N r (bL ds) Bb es) : Op2N r (pu (dat (.list ds))) Bb es := fun G H L x y Q l hx hy q => h G H L x y Q l (bl_of_dat _ _ _ hx) hy q
theorem Op2N.r {r : R2} {ds es : List PyData} (h : Op2N r Ba (bL ds) es) : Op2N r Ba (pu (dat (.list ds))) es := fun G H L x y Q l hx hy q => h G H L x y Q l hx (bl_of_dat _ _ _ hy) q
theorem Op2.is {r : R2} {R' : Rp} (h : Op2 r Ba Bb R) (e : R = R') : Op2 r Ba Bb R' := by rw [← e]; exact h
/-! ### values of which some is told -/
def exR {α : Type} (P : α → Prop) (F : α → Rp) : Rp := ⟨fun G v => ∃ x, P x ∧ (F x).p G v, fun e h => by
  obtain ⟨x, p, q⟩ := h
  exact ⟨x, p, (F x).up e q⟩⟩
theorem Slots.open_ {α : Type} {P : α → Prop} {F : α → Rp} {G : Hp} {L0 : List Cell} : ∀ {σ ρ L} {i : Nat}, Slots G L0 σ ρ L → ρ[i]? = some (.p (exR P F)) → ∃ x, P x ∧ Slots G L0 σ (ρ.set i (.p (F x))) L
  | _, _, _, _, .nil, h => by simp at h
  | _, _, _, 0, .x _, h => by simp at h
  | _, _, _, 0, .b _ _, h => by simp at h
  | _, _, _, 0, .o _ _, h => by simp at h
  | _, _, _, 0, .p q s, h => by
    simp at h; subst h
    obtain ⟨x, p, r⟩ := q
    exact ⟨x, p, .p r s⟩
  | _, _, _, i + 1, .x s, h => by
    obtain ⟨x, p, s'⟩ := s.open_ (i := i) (by simpa using h)
    exact ⟨x, p, .x s'⟩
  | _, _, _, i + 1, .b q s, h => by
    obtain ⟨x, p, s'⟩ := s.open_ (i := i) (by simpa using h)
    exact ⟨x, p, .b q s'⟩
  | _, _, _, i + 1, .p q s, h => by
    obtain ⟨x, p, s'⟩ := s.open_ (i := i) (by simpa using h)
    exact ⟨x, p, .p q s'⟩
  | _, _, _, i + 1, .o q s, h => by
    obtain ⟨x, p, s'⟩ := s.open_ (i := i) (by simpa using h)
    exact ⟨x, p, .o q s'⟩
theorem Ex.open_ {α : Type} {P : α → Prop} {F : α → Rp} (i : Nat) (hi : ρ[i]? = some (.p (exR P F))) (h : ∀ x, P x → Ex W t (ρ.set i (.p (F x))) o) : Ex W t ρ o := ⟨fun D s q => by
  obtain ⟨L, sl, la⟩ := s
  obtain ⟨x, p, sl'⟩ := sl.open_ hi
  exact (h x p).run D ⟨L, sl', la⟩ q⟩
theorem Ev.ex {α : Type} {P : α → Prop} {F : α → Rp} (x : α) (p : P x) (h : Ev te ρ (pu (F x))) : Ev te ρ (pu (exR P F)) := h.imp fun _ _ _ q => ⟨x, p, q⟩
/-! ### handing over -/
theorem Ex.retO {ds : List PyData} (h : EvN te ρ ds) : Ex W (tRet te) ρ (.ro (oL ds)) := ⟨fun D s q => h.run _ s fun G' H' p vs e s' hp d => by
  obtain ⟨G2, e2, l2⟩ := s'.fin
  exact q G2 _ p [(p, .lst vs)] (e.trans e2) (l2.cell hp) ⟨vs, rfl, dpAll_up e2 d⟩⟩
/-- an owned list, handed over -/
theorem Ex.retOv {ds : List PyData} (hi : ρ[i]? = some (.o (oL ds))) : Ex W (tRet (tVar i)) ρ (.ro (oL ds)) := ⟨fun D s q => by
  obtain ⟨L, sl, la⟩ := s
  obtain ⟨a, cs, M, e, hO, pm, _⟩ := sl.get_o hi
  have l2 : Lay _ (M ++ (cs ++ _)) _ := la.perm (by
    refine (pm.append_right _).trans ?_
    rw [List.append_assoc]
    exact perm_swap cs M _)
  obtain ⟨G2, e2, l3, _⟩ := l2.freezeAll
  exact ⟨_, e, q G2 _ a cs e2 l3 ((oL ds).up e2 hO)⟩⟩
/-- a pair (n, owned list) -/
def oPair (n : Int) (ds : List PyData) : Op := ⟨fun G a cs => ∃ l vs, G a = some (.tup [.int n, .ref l]) ∧ cs = [(l, HO.lst vs)] ∧ DqAll G vs ds, fun e h => by
  obtain ⟨l, vs, h1, h2, h3⟩ := h
  exact ⟨l, vs, e _ _ h1, h2, dpAll_up e h3⟩⟩
theorem Ex.retPair {ds : List PyData} (hi : ρ[i]? = some (.p (dI n))) (hj : ρ[j]? = some (.o (oL ds))) : Ex W (tRet (tTup (tCons (tVar i) (tCons (tVar j) tNil)))) ρ (.ro (oPair n ds)) := ⟨fun {G σ L0 H} D s q => by
  obtain ⟨v, e, r⟩ := s.get_p hi
  cases r
  obtain ⟨L, sl, la⟩ := s
  obtain ⟨a, cs, M, e', ⟨vs, hcs, hd⟩, pm, _⟩ := sl.get_o hj
  subst hcs
  refine ⟨_, e, _, e', (by show 2 ≤ sizeLine; decide), fun p hp => ?_⟩
  have g := same_upd (o := HO.tup [.int n, .ref a]) (la.freshG hp)
  have l2 : Lay (upd G p (HO.tup [.int n, .ref a])) (M ++ ([(a, HO.lst vs)] ++ L0)) (upd H p (HO.tup [.int n, .ref a])) := (la.grow (o := HO.tup [.int n, .ref a]) hp).perm (by
    refine (pm.append_right _).trans ?_
    rw [List.append_assoc]
    exact perm_swap _ M _)
  obtain ⟨G2, e2, l3, _⟩ := l2.freezeAll
  exact q G2 _ p _ (g.trans e2) l3 ⟨a, vs, e2 _ _ upd_same, rfl, dpAll_up (g.trans e2) hd⟩⟩
/-- a, b = f(..), f handing over a pair of a number and a list -/
theorem Ex.asgPair {α : Type} {pre : α → Prop} {A : α → List Bw} {F : α → Res} {ds : List PyData} (x : α) (ha : EvA tr ρ (A x)) (hp : pre x) (hR : F x = .own (oPair n ds)) (hj : j < ρ.length) :
    Ex W (tAsg (tCall (SpA pre A F) [] E tr) (gTup K 2 (gCons (gName i) (gCons (gName j) gNil)))) ρ (.nx ((ρ.set i (.p (dI n))).set j (.o (oL ds)))) := ⟨fun {G σ L0 H} D s q => ha.at s fun G1 H1 vs L e1 sl la r => by
  refine ⟨x, G1, L ++ L0, hp, la, by rw [List.append_nil]; exact r, ?_⟩
  rw [hR]
  intro G2 H2 a cs e2 l2 ro
  obtain ⟨l, ws, ht, hcs, d⟩ := ro
  subst hcs
  obtain ⟨H3, hn3, rfl, l3⟩ := Lay.uncell l2
  refine ⟨a, [.int n, .ref l], rfl, .inl (.inl (l2.same _ _ ht)), rfl, _, _, rfl, _, _, rfl, rfl, ?_⟩
  have s3 : Stt G2 ρ σ L0 H3 := ⟨L, sl.up e2, l3⟩
  obtain ⟨G4, e4, s4⟩ := s3.set_p (R := dI n) (v := .int n) (Dq.int n) i
  obtain ⟨G5, e5, s5⟩ := s4.set_o (O := oL ds) (a := l) (cs := [(l, .lst ws)]) (H' := upd H3 l (.lst ws)) ⟨ws, rfl, dpAll_up e4 d⟩ j (by simpa using hj) (fun M lm => lm.cell hn3)
  exact q G5 _ _ ((e1.trans e2).trans (e4.trans e5)) s5⟩
/-- f(..).append(e): a new list, changed and let go -/
theorem Ex.appNew {ds : List PyData} {d : PyData} {T : String} (h : EvN te ρ ds) (he : Ev ta ρ (pu (dat d))) (hz : ds.length < 1000000) (hT : T = "list") : Ex W (tDrop (tBM K T rAppend te (tCons ta tNil))) ρ (.nx ρ) := ⟨fun {G σ L0 H} D s q => h.run _ s fun G1 H1 p vs e1 s1 hp hd => by
  refine ⟨.inl ⟨hT, vs, .inl (.inl upd_same)⟩, ?_⟩
  obtain ⟨L, sl, la⟩ := s1
  -- the list as a frame's cell while e is evaluated
  have st : Stt G1 ρ σ ((p, HO.lst vs) :: L0) (upd H1 p (.lst vs)) := ⟨L, sl.mono fun c hc => List.mem_cons_of_mem _ hc, (la.cell hp).perm List.perm_middle.symm⟩
  refine he.atp st fun G2 H2 v e2 s2 r => ?_
  obtain ⟨L2, sl2, la2⟩ := s2
  have la3 := la2.perm List.perm_middle
  have hc := (la3.on _ (List.mem_cons_self ..)).1
  refine ⟨p, vs, v, rfl, rfl, hc, by rw [dpAll_len hd]; exact Nat.lt_trans hz (by decide), ?_⟩
  have la4 := (la3.store (u := HO.lst (vs ++ [v])))
  have hG : G2 p = none := (la3.on _ (List.mem_cons_self ..)).2
  have g := same_upd (o := HO.lst (vs ++ [v])) hG
  exact q _ _ _ ((e1.trans e2).trans g) ⟨L2, (((sl.mix e2 sl2)).up g), la4.freeze⟩⟩
theorem enum_map {α : Type} {en : α → PyData} : ∀ (xs : List α) (k : Nat), ((xs.map en).zipIdx k).map (fun p => PyData.tuple [.int ((p.2 : Nat) : Int), p.1]) = (xs.zipIdx k).map fun p => .tuple [.int ((p.2 : Nat) : Int), en p.1]
  | [], _ => rfl
  | x :: xs, k => by
    rw [List.map_cons, List.zipIdx_cons, List.map_cons, List.zipIdx_cons, List.map_cons, enum_map xs (k + 1)]
theorem ei_enumT {α : Type} {en : α → PyData} {xs : List α} (h : EvS K te ρ (xs.map en)) : EvI K (iEnum K (tCons te tNil)) ρ (xs.zipIdx.map fun p => .tuple [.int ((p.2 : Nat) : Int), en p.1]) := by
  rw [← enum_map xs 0]
  exact ei_enum h
theorem ei_rangeT {n : Int} (h : EvA tr ρ [pu (dI n)]) (h1 : -(2 ^ 62) ≤ n) (h2 : n < 2 ^ 62) : EvI K (iRng1 tr) ρ ((List.range n.toNat).map fun (k : Nat) => .int (k : Int)) := by
  have e : ((List.range n.toNat).map fun (k : Nat) => PyData.int (k : Int)) = irange 0 n.toNat := by
    unfold irange
    refine List.map_congr_left fun k _ => ?_
    rw [Int.zero_add]
  rw [e]
  exact ei_range1 h h1 h2
theorem ei_listT {α : Type} {en : α → PyData} {xs : List α} (h : EvS K te ρ (xs.map en)) : EvI K (iList K te) ρ (xs.map en) := ei_list h
theorem len_map_le {α β : Type} {f : α → β} {xs : List α} {n : Nat} (h : xs.length ≤ n) : (xs.map f).length ≤ n := by rw [List.length_map]; exact h
end
theorem cl_lenP {K : PySem.W.Frag} {ds : List PyData} : Cl (cLen K) [pu (dat (.list ds))] (dI ds.length) := fun G H L vs Q l r q => by
  cases r with
  | cons h t => exact cl_len G H L _ Q l (.cons (bl_of_dat _ _ _ h) t) q
theorem cl_listP {K : PySem.W.Frag} {ds : List PyData} : ClN (cList K) [pu (dat (.list ds))] ds := fun G H L vs Q l r q => by
  cases r with
  | cons h t => exact cl_list G H L _ Q l (.cons (bl_of_dat _ _ _ h) t) q
theorem o_inT2 {K : PySem.W.Frag} {n a b : Int} : Op2 (rIn K false) (pu (dI n)) (pu (dat (.tuple [.int a, .int b]))) (dB (decide (n ∈ [a, b]))) := o_inT (ns := [a, b])
theorem SpA.go {α : Type} {pre : α → Prop} {A : α → List Bw} {F : α → Res} {vs : List V} {H : Hp} {Q : VK} {E : XK} {t : TS} (h : SpA pre A F vs H Q E) (N : List Str) (m : Nat) (hm : ∀ x, (A x).length = m)
    (hx : ∀ x, pre x → ∃ r ρ, F x = r ∧ Ex (WofE E) t (st0 (A x) (N.length - m)) (r.out ρ)) : t { nx := fun _ H' => Q .non H', rt := Q } (L2.start N vs) H :=
  h.run (N := N) hm fun x p => by
    obtain ⟨r, ρ, e, ex⟩ := hx x p
    exact ⟨ρ, by rw [e]; exact ex⟩
/-- where the body may run out -/
theorem SpA.goN {α : Type} {pre : α → Prop} {A : α → List Bw} {F : α → Res} {vs : List V} {H : Hp} {Q : VK} {E : XK} {t : TS} (h : SpA pre A F vs H Q E) (N : List Str) (m : Nat) (hm : ∀ x, (A x).length = m)
    (hx : ∀ x, pre x → (∃ ρ, F x = .ok (dat .none) ∧ Ex (WofE E) t (st0 (A x) (N.length - m)) (.nx ρ)) ∨ ∃ r ρ, F x = r ∧ Ex (WofE E) t (st0 (A x) (N.length - m)) (r.out ρ)) : t { nx := fun _ H' => Q .non H', rt := Q } (L2.start N vs) H :=
  h.runN (N := N) hm fun x p => by
    rcases hx x p with ⟨ρ, e, ex⟩ | ⟨r, ρ, e, ex⟩
    · exact ⟨ρ, .inl ⟨e, ex⟩⟩
    · exact ⟨ρ, .inr (by rw [e]; exact ex)⟩
end Z

set_option Elab.async false
set_option linter.all false
set_option maxRecDepth 100000
set_option maxHeartbeats 2000000
/-! Zk: the rules that name the written part, with its name handed over. -/
namespace Z
open PySem PySem.Spec PyProof.Rows L2
section
variable (K : PySem.W.Frag) {X : Cx}
theorem kix_list (h : X.K = K := by rfl) : IxR X (rIxL K) := by subst h; exact ix_list
theorem kix_tup (h : X.K = K := by rfl) : IxR X (rIxT K) := by subst h; exact ix_tup
theorem ksl_list (h : X.K = K := by rfl) : SlR X (rSlL K) := by subst h; exact sl_list
theorem ksl_tup (h : X.K = K := by rfl) : SlR X (rSlT K) := by subst h; exact sl_tup
theorem kop_in (h : X.K = K := by rfl) : OpR X (compareOp .In) (rIn K false) := by subst h; exact op_in_seq
theorem kop_notIn (h : X.K = K := by rfl) : OpR X (compareOp .NotIn) (rIn K true) := by subst h; exact op_notIn_seq
theorem kop_eqD (hu : X.A.units + 64 < cLine) (h : X.K = K := by rfl) : OpR X (compareOp .Eq) (rEqD K) := by subst h; exact op_eqD hu
theorem kop_neD (hu : X.A.units + 64 < cLine) (h : X.K = K := by rfl) : OpR X (compareOp .NotEq) (rNeD K) := by subst h; exact op_neD hu
theorem kcall_len (h : X.K = K := by rfl) : CallR X (.builtin "len") (cLen K) := by subst h; exact call_len_seq
theorem kcall_list (h : X.K = K := by rfl) : CallR X (.type "list") (cList K) := by subst h; exact call_list_of
theorem kcall_sum (hc : X.calm = true) (h : X.K = K := by rfl) : CallR X (.builtin "sum") (rSum K) := by subst h; exact cr_sum hc
theorem kcall_any (hc : X.calm = true) (h : X.K = K := by rfl) : CallR X (.builtin "any") (rAny K) := by subst h; exact cr_any hc
theorem kcall_all (hc : X.calm = true) (h : X.K = K := by rfl) : CallR X (.builtin "all") (rAll K) := by subst h; exact cr_all hc
variable {tg l e : Expr} {tl te : TE} {ta : TA} {es elts : List Expr} {k kk n : Nat} {t : TGs} {pos p tpos : Pos} {f : Str}
theorem kpi_list (hl : PE X l tl) (h : X.K = K := by rfl) : PI X tg l (iList K tl) := by subst h; exact pi_list hl
theorem kpi_tup (hl : PE X l tl) (h : X.K = K := by rfl) : PI X tg l (iTup K tl) := by subst h; exact pi_tup hl
theorem kpi_enum (hg : Gl X "enumerate") (hm : X.mg "enumerate" = none) (ha : PA X [e] ta) (hs : starEach [e] X.env = [(false, eval e X.env)] := by rfl) (h : X.K = K := by rfl) : PI X (.Tuple elts kk tpos) (.Call (.Name "enumerate" p) [e] [] pos) (iEnum K ta) := by
  subst h; exact pi_enum hg hm ha hs
theorem kpg_tup (hc : X.calm = true) (hp : PGs X es t) (hn : (assignEach es X.env).length = n := by rfl) (hst : (assignEach es X.env).findIdx? (·.1) = none := by rfl) (h : X.K = K := by rfl) : PG X (.Tuple es k pos) (gTup K n t) := by
  subst h; exact pg_tup hc hp hn hst
theorem kps_fld {value o : Expr} {ta tv : TE} {pos' : Pos} (ho : PE X o ta) (hv : PE X value tv) (hs : swapsWith value (some (.Attribute o f pos')) pos.line X.env = pure false) (h : X.K = K := by rfl) : PS X (.Assign [.Attribute o f pos'] value pos) (sFld K ta tv f) := by subst h; exact ps_fld ho hv hs
theorem kpe_fld (he : PE X e te) (hb : attributeBase e f X.env (eval e X.env) = eval e X.env) (h : X.K = K := by rfl) : PE X (.Attribute e f pos) (tFld K te f) := by subst h; exact pe_fld he hb
end
end Z

set_option Elab.async false
set_option linter.all false
set_option maxRecDepth 100000
set_option maxHeartbeats 2000000
/-! Zl: makes and methods in a try. -/
namespace Z
open PySem PySem.Spec PyProof.Rows L2
section
variable {K : PySem.W.Frag} {W : WX} {ρ ρ' ρ1 : List Sl} {te ta tb : TE} {t u : TS} {tr : TA} {R : Rp} {B : Bw} {o : Out} {i : Nat} {α : Type} {pre : α → Prop} {A : α → List Bw} {C D : Addr} {n : Int}
theorem ev_makeS {F : α → IRes} {E : L2.St → XK} {fs : List (Str × Rp)} (x : α) (ha : EvA tr ρ (A x)) (hp : pre x) (hF : F x = .ok fs) : Ev (tMakeS C (SpI C pre A F) E tr) ρ (pu (insR C fs)) := Ev.pure fun {G σ L0 H} Q s q => ha.at s fun G1 H1 vs L e1 sl la r => fun y dx hy hd hne => by
  have g := same_upd (o := .own y) (la.freshG hd)
  have l1 : Lay (upd G1 dx (.own y)) (L ++ L0) (upd H1 dx (.own y)) := la.grow hd
  have hy1 : upd H1 dx (.own y) y = none := by rw [upd_ne (fun z => hne z.symm)]; exact hy
  have ab : ∀ {vs : List V} {Bs : List Bw}, AllB G1 (L ++ L0) vs Bs → AllB (upd G1 dx (.own y)) (L ++ L0) vs Bs := fun {vs Bs} h => by
    induction h with
    | nil => exact .nil
    | cons h _ ih => exact .cons (Bw.up _ g (fun _ z => z) h) ih
  refine ⟨x, upd G1 dx (.own y), L ++ L0, y, dx, vs, hp, rfl, l1.cell hy1, ab r, ?_⟩
  rw [hF]
  refine fun G' H' dx' fv e2 l2 hfl => ⟨rfl, ?_⟩
  have hG : G' y = none := (l2.on _ (List.mem_cons_self ..)).2
  have e3 := same_upd (o := HO.ins C dx' fv) hG
  exact q _ H' (.ref y) ((e1.trans (g.trans e2)).trans e3) ⟨L, sl.up ((g.trans e2).trans e3), l2.freeze⟩ ⟨y, dx', fv, rfl, upd_same, hfl.up e3⟩
theorem ex_makeS {F : α → IRes} (x : α) (ha : EvA tr ρ (A x)) (hp : pre x) (hF : F x = .err D n) : EvX W (tMakeS C (SpI C pre A F) (WE W) tr) ρ D n := ⟨fun {G σ L0 H} Q s q => ha.at s fun G1 H1 vs L e1 sl la r => fun y dx hy hd hne => by
  have g := same_upd (o := .own y) (la.freshG hd)
  have l1 : Lay (upd G1 dx (.own y)) (L ++ L0) (upd H1 dx (.own y)) := la.grow hd
  have hy1 : upd H1 dx (.own y) y = none := by rw [upd_ne (fun z => hne z.symm)]; exact hy
  have ab : ∀ {vs : List V} {Bs : List Bw}, AllB G1 (L ++ L0) vs Bs → AllB (upd G1 dx (.own y)) (L ++ L0) vs Bs := fun {vs Bs} h => by
    induction h with
    | nil => exact .nil
    | cons h _ ih => exact .cons (Bw.up _ g (fun _ z => z) h) ih
  refine ⟨x, upd G1 dx (.own y), L ++ L0, y, dx, vs, hp, rfl, l1.cell hy1, ab r, ?_⟩
  rw [hF]
  exact fun G' H' d e2 l2 hd' => q G' H' d (e1.trans (g.trans e2)) ⟨L, sl.up (g.trans e2), l2⟩ hd'⟩
theorem ev_methSx {E : L2.St → XK} {F : α → Res} {fs : List (Str × Rp)} {m : Str} {B0 : α → Bw} (x : α) (h0 : Ev te ρ (pu (insR C fs))) (hm : fs.lookup m = none) (ha : EvA tr ρ (A x)) (hB : ∀ G L v, (insR C fs).p G v → (B0 x).p G L v) (hp : pre x) (hR : F x = .ok R) :
    Ev (tMethSx C m (SpA pre (fun x => B0 x :: A x) F) E te tr) ρ (pu R) := Ev.pure fun {G σ L0 H} Q s q => h0.atp s fun G0 H0 v e0 s0 r0 => by
  obtain ⟨a, dx, fv, rfl, hH, hfl⟩ := id r0
  refine ⟨a, dx, fv, rfl, s0.same _ _ hH, hfl.no hm, ?_⟩
  refine ha.at s0 fun G1 H1 vs L e1 sl la r => ?_
  refine ⟨x, G1, L ++ L0, hp, la, .cons (hB _ _ _ ((insR C fs).up e1 r0)) r, ?_⟩
  rw [hR]
  exact fun G2 H2 v e2 l2 rv => q G2 H2 v ((e0.trans e1).trans e2) ⟨L, sl.up e2, l2⟩ rv
theorem en_methSx {E : L2.St → XK} {F : α → Res} {fs : List (Str × Rp)} {m : Str} {B0 : α → Bw} {ds : List PyData} (x : α) (h0 : Ev te ρ (pu (insR C fs))) (hm : fs.lookup m = none) (ha : EvA tr ρ (A x)) (hB : ∀ G L v, (insR C fs).p G v → (B0 x).p G L v) (hp : pre x) (hR : F x = .own (oL ds)) :
    EvN (tMethSx C m (SpA pre (fun x => B0 x :: A x) F) E te tr) ρ ds := ⟨fun {G σ L0 H} Q s q => h0.atp s fun G0 H0 v e0 s0 r0 => by
  obtain ⟨a, dx, fv, rfl, hH, hfl⟩ := id r0
  refine ⟨a, dx, fv, rfl, s0.same _ _ hH, hfl.no hm, ?_⟩
  refine ha.at s0 fun G1 H1 vs L e1 sl la r => ?_
  refine ⟨x, G1, L ++ L0, hp, la, .cons (hB _ _ _ ((insR C fs).up e1 r0)) r, ?_⟩
  rw [hR]
  intro G2 H2 a2 cs e2 l2 ro
  obtain ⟨ws, hcs, d⟩ := ro
  subst hcs
  obtain ⟨H3, hn3, rfl, l3⟩ := Lay.uncell l2
  exact q G2 H3 _ ws ((e0.trans e1).trans e2) ⟨L, sl.up e2, l3⟩ hn3 d⟩
theorem ex_methSx {F : α → Res} {fs : List (Str × Rp)} {m : Str} {B0 : α → Bw} (x : α) (h0 : Ev te ρ (pu (insR C fs))) (hm : fs.lookup m = none) (ha : EvA tr ρ (A x)) (hB : ∀ G L v, (insR C fs).p G v → (B0 x).p G L v) (hp : pre x) (hR : F x = .err D n) :
    EvX W (tMethSx C m (SpA pre (fun x => B0 x :: A x) F) (WE W) te tr) ρ D n := ⟨fun {G σ L0 H} Q s q => h0.atp s fun G0 H0 v e0 s0 r0 => by
  obtain ⟨a, dx, fv, rfl, hH, hfl⟩ := id r0
  refine ⟨a, dx, fv, rfl, s0.same _ _ hH, hfl.no hm, ?_⟩
  refine ha.at s0 fun G1 H1 vs L e1 sl la r => ?_
  refine ⟨x, G1, L ++ L0, hp, la, .cons (hB _ _ _ ((insR C fs).up e1 r0)) r, ?_⟩
  rw [hR]
  exact fun G2 H2 d e2 l2 hd => q G2 H2 d ((e0.trans e1).trans e2) ⟨L, sl.up e2, l2⟩ hd⟩
end
end Z

set_option Elab.async false
set_option linter.all false
set_option maxRecDepth 100000
set_option maxHeartbeats 2000000
set_option exponentiation.threshold 4000
/-! Zm: data that may be compared, and shown. -/
namespace Z
open PySem PySem.Spec PyProof.Rows L2
/-- no strings' surprises, at most this deep -/
structure Sh (k : Nat) (d : PyData) : Prop where
  lay : d.canLay0 = true
  deep : d.depth ≤ k
theorem sh_int {k : Nat} {i : Int} : Sh k (.int i) := ⟨rfl, Nat.zero_le _⟩
theorem sh_bool {k : Nat} {b : Bool} : Sh k (.bool b) := ⟨rfl, Nat.zero_le _⟩
theorem sh_none {k : Nat} : Sh k .none := ⟨rfl, Nat.zero_le _⟩
theorem canAll {xs : List PyData} (h : ∀ x ∈ xs, x.canLay0 = true) : PyData.canLayAll0 xs = true := by
  induction xs with
  | nil => rfl
  | cons x xs ih =>
    rw [PyData.canLayAll0, h x (List.mem_cons_self ..), ih fun y hy => h y (List.mem_cons_of_mem _ hy)]; rfl
theorem deepAll {k : Nat} {xs : List PyData} (h : ∀ x ∈ xs, x.depth ≤ k) : PyData.depthAll xs ≤ k := by
  induction xs with
  | nil => exact Nat.zero_le _
  | cons x xs ih =>
    rw [PyData.depthAll]
    exact Nat.max_le.mpr ⟨h x (List.mem_cons_self ..), ih fun y hy => h y (List.mem_cons_of_mem _ hy)⟩
theorem sh_list {k : Nat} {xs : List PyData} (h : ∀ x ∈ xs, Sh k x) : Sh (k + 1) (.list xs) := ⟨by rw [PyData.canLay0]; exact canAll fun x hx => (h x hx).lay, by rw [PyData.depth]; exact Nat.succ_le_succ (deepAll fun x hx => (h x hx).deep)⟩
theorem sh_tup {k : Nat} {xs : List PyData} (h : ∀ x ∈ xs, Sh k x) : Sh (k + 1) (.tuple xs) := ⟨by rw [PyData.canLay0]; exact canAll fun x hx => (h x hx).lay, by rw [PyData.depth]; exact Nat.succ_le_succ (deepAll fun x hx => (h x hx).deep)⟩
theorem sh_nil {k : Nat} : ∀ x ∈ ([] : List PyData), Sh k x := fun x h => nomatch h
theorem sh_cons {k : Nat} {d : PyData} {ds : List PyData} (h : Sh k d) (t : ∀ x ∈ ds, Sh k x) : ∀ x ∈ d :: ds, Sh k x := fun x hx => by
  rcases List.mem_cons.mp hx with rfl | hx
  · exact h
  · exact t x hx
theorem sh_map {α : Type} {k : Nat} {f : α → PyData} {xs : List α} (h : ∀ x ∈ xs, Sh k (f x)) : ∀ y ∈ xs.map f, Sh k y := fun y hy => by
  obtain ⟨x, hx, rfl⟩ := List.mem_map.mp hy
  exact h x hx
theorem Sh.shaped {k : Nat} {d : PyData} (h : Sh k d) (hk : k ≤ 64 := by decide) : SeqAt.shaped d = true := by
  unfold SeqAt.shaped
  rw [h.lay, decide_eq_true (Nat.le_trans h.deep hk)]; rfl
theorem Sh.refl {k : Nat} {d : PyData} (h : Sh k d) : PyData.eqv d d = true := SeqAt.eqv_refl d h.lay
/-- what repr shows -/
structure Sm (k w : Nat) (d : PyData) : Prop where
  sh : Sh k d
  wt : d.weight ≤ w
  short : d.intsShort 13 = true
  show_ : d.showable = true
theorem sm_int {k : Nat} {i : Int} (h : i.natAbs < 10 ^ 12) : Sm k 40 (.int i) := by
  refine ⟨sh_int, ?_, ?_, ?_⟩
  · rw [PyData.weight]
    by_cases z : i = 0
    · rw [if_pos (by simpa using z)]; decide
    · rw [if_neg (by simpa using z)]
      have : i.natAbs.log2 < 40 := (Nat.log2_lt (by omega)).mpr (by omega)
      omega
  · rw [PyData.intsShort]; exact decide_eq_true (PyData.shown_int_le h)
  · rw [PyData.showable]
    refine decide_eq_true ?_
    by_cases z : i.natAbs = 0
    · rw [z]; decide
    · exact (Nat.log2_lt z).mpr (Nat.lt_trans h (Nat.lt_of_lt_of_le (show 10 ^ 12 < 2 ^ 40 by decide) (Nat.pow_le_pow_right (by decide) (by decide))))
theorem shortAll {xs : List PyData} (h : ∀ x ∈ xs, x.intsShort 13 = true) : PyData.intsShortAll 13 xs = true := by
  induction xs with
  | nil => rfl
  | cons x xs ih =>
    rw [PyData.intsShortAll, h x (List.mem_cons_self ..), ih fun y hy => h y (List.mem_cons_of_mem _ hy)]; rfl
theorem showAll {xs : List PyData} (h : ∀ x ∈ xs, x.showable = true) : PyData.showableAll xs = true := by
  induction xs with
  | nil => rfl
  | cons x xs ih =>
    rw [PyData.showableAll, h x (List.mem_cons_self ..), ih fun y hy => h y (List.mem_cons_of_mem _ hy)]; rfl
theorem wtAll {w : Nat} {xs : List PyData} (h : ∀ x ∈ xs, x.weight ≤ w) : PyData.weightAll xs ≤ xs.length * (w + 1) := by
  induction xs with
  | nil => exact Nat.zero_le _
  | cons x xs ih =>
    rw [PyData.weightAll, List.length_cons, Nat.succ_mul]
    have := h x (List.mem_cons_self ..)
    have := ih fun y hy => h y (List.mem_cons_of_mem _ hy)
    omega
theorem sm_list {k w W : Nat} {xs : List PyData} (h : ∀ x ∈ xs, Sm k w x) (hw : xs.length * (w + 1) ≤ W) : Sm (k + 1) W (.list xs) :=
  ⟨sh_list fun x hx => (h x hx).sh, by rw [PyData.weight]; exact Nat.le_trans (wtAll fun x hx => (h x hx).wt) hw, by rw [PyData.intsShort]; exact shortAll fun x hx => (h x hx).short, by rw [PyData.showable]; exact showAll fun x hx => (h x hx).show_⟩
theorem sm_tup {k w W : Nat} {xs : List PyData} (h : ∀ x ∈ xs, Sm k w x) (hw : xs.length * (w + 1) ≤ W) : Sm (k + 1) W (.tuple xs) :=
  ⟨sh_tup fun x hx => (h x hx).sh, by rw [PyData.weight]; exact Nat.le_trans (wtAll fun x hx => (h x hx).wt) hw, by rw [PyData.intsShort]; exact shortAll fun x hx => (h x hx).short, by rw [PyData.showable]; exact showAll fun x hx => (h x hx).show_⟩
theorem Sm.mono {k w k' w' : Nat} {d : PyData} (h : Sm k w d) (hk : k ≤ k') (hw : w ≤ w') : Sm k' w' d := ⟨⟨h.sh.lay, Nat.le_trans h.sh.deep hk⟩, Nat.le_trans h.wt hw, h.short, h.show_⟩
theorem sm_nil {k w : Nat} : ∀ x ∈ ([] : List PyData), Sm k w x := fun x h => nomatch h
theorem sm_cons {k w : Nat} {d : PyData} {ds : List PyData} (h : Sm k w d) (t : ∀ x ∈ ds, Sm k w x) : ∀ x ∈ d :: ds, Sm k w x := fun x hx => by
  rcases List.mem_cons.mp hx with rfl | hx
  · exact h
  · exact t x hx
theorem sm_map {α : Type} {k w : Nat} {f : α → PyData} {xs : List α} (h : ∀ x ∈ xs, Sm k w (f x)) : ∀ y ∈ xs.map f, Sm k w y := fun y hy => by
  obtain ⟨x, hx, rfl⟩ := List.mem_map.mp hy
  exact h x hx
theorem Sm.len {k w : Nat} {d : PyData} (h : Sm k w d) (hk : k ≤ 60) (hw : w ≤ 2 ^ 20) : d.shown.length ≤ sizeLine := by
  refine Nat.le_trans (shown_le13 ?_ h.short) (by decide)
  unfold PyData.layable0
  rw [h.sh.lay, decide_eq_true (Nat.le_trans h.sh.deep (Nat.le_trans hk (by decide))), decide_eq_true (Nat.le_trans h.wt hw)]; rfl
/-- repr of such data -/
theorem cl_repr {k w : Nat} {xs : List PyData} (h : Sm k w (.tuple xs)) (hk : k ≤ 60 := by decide) (hw : w ≤ 2 ^ 20 := by decide) : Cl cRepr [pu (dat (.tuple xs))] (dat (.str (PyData.shown (.tuple xs)))) := fun G H L vs Q l r q => by
  cases r with
  | cons h1 t =>
    cases t
    have h1 : Dq G _ (.tuple xs) := h1
    cases h1 with
    | @tup a ys _ hv d =>
      exact ⟨a, .tuple xs, rfl, dp_up l.same (Dq.tup hv d), h.show_, PyData.hasDict_of_canLay _ h.sh.lay, Nat.le_trans h.sh.deep hk, h.len hk hw, q _ (Dq.str _)⟩
end Z

set_option Elab.async false
set_option linter.all false
set_option maxRecDepth 100000
set_option maxHeartbeats 2000000
/-! Zn: the script. -/
namespace Z
open PySem PySem.Spec PyProof.Rows L2
section
variable {K : PySem.W.Frag} {ρ : List Sl} {te : TE}
theorem sqL_up {H H' : Hp} {a : Addr} {xs : List V} (e : Same H H') (h : SqL K H a xs) : SqL K H' a xs := by
  rcases h with (h | ⟨o, h⟩) | h
  · exact .inl (.inl (e _ _ h))
  · exact .inl (.inr ⟨o, e _ _ h⟩)
  · exact .inr h
/-- the script: whole numbers, wherever they stand -/
def scR (K : PySem.W.Frag) (xs : List Int) : Rp := ⟨fun G v => ∃ a, v = .ref a ∧ SqL K G a (xs.map V.int), fun e h => by
  obtain ⟨a, r, q⟩ := h
  exact ⟨a, r, sqL_up e q⟩⟩
theorem cl_lenS {xs : List Int} : Cl (cLen K) [pu (scR K xs)] (dI xs.length) := fun G H L vs Q l r q => by
  cases r with
  | cons h t =>
    cases t
    obtain ⟨a, rfl, hv⟩ := h
    refine ⟨a, _, rfl, .inl (sqL_up l.same hv), q _ ?_⟩
    rw [List.length_map]
    exact Dq.int _
theorem atI_V {α : Type} {en : α → V} {xs : List α} {i : Int} {x : α} (h0 : 0 ≤ i) (h : xs[i.toNat]? = some x) : atI (xs.map en) i = some (en x) := by
  obtain ⟨hl, rfl⟩ := List.getElem?_eq_some_iff.mp h
  unfold atI ixN
  rw [if_pos h0, if_pos (by rw [List.length_map]; omega)]
  show (xs.map en)[i.toNat]? = _
  rw [List.getElem?_map, h]
  rfl
theorem o_ixS {xs : List Int} {i x : Int} (h0 : 0 ≤ i) (h : xs[i.toNat]? = some x) : Op2 (rIxL K) (pu (scR K xs)) (pu (dI i)) (dI x) := fun G H L v y Q l hx hy q => by
  obtain ⟨a, rfl, hv⟩ := hx
  cases hy
  exact ⟨a, _, i, _, rfl, rfl, sqL_up l.same hv, atI_V h0 h, q _ (Dq.int _)⟩
theorem ev_sS {xs : List Int} (h : Ev te ρ (pu (scR K xs))) : EvS K te ρ (xs.map .int) := ⟨fun Q s q => h.atp s fun G' H' v e s' r => by
  obtain ⟨a, rfl, hv⟩ := r
  exact q G' H' a _ e s' (fun G'' L'' H'' e2 l => sqL_up l.same (sqL_up e2 hv)) (dpAll_of_ints xs)⟩
end
theorem o_eqS {a b : Str} : Op2 rEq (pu (dat (.str a))) (pu (dat (.str b))) (dB (decide (a = b))) := fun G H L x y Q _ hx hy q => by
  cases hx; cases hy
  refine ⟨rfl, q _ ?_⟩
  have e : decide (V.str a = V.str b) = decide (a = b) := by rw [Bool.eq_iff_iff]; simp
  rw [e]
  exact Dq.bl _
theorem o_neS {a b : Str} : Op2 rNe (pu (dat (.str a))) (pu (dat (.str b))) (dB (!decide (a = b))) := fun G H L x y Q _ hx hy q => by
  cases hx; cases hy
  refine ⟨rfl, q _ ?_⟩
  have e : decide (V.str a = V.str b) = decide (a = b) := by rw [Bool.eq_iff_iff]; simp
  rw [e]
  exact Dq.bl _
/-- an error of the class at C is what «except S» names -/
theorem exm_of {K : PySem.W.Frag} {C S : Addr} (h1 : PySem.W.subIn K (.ref S) (.type "BaseException") = some true) (h2 : PySem.W.isClsIn K S = true) (h3 : PySem.W.typeIn K (.ref S) = some (.type "type")) (h4 : PySem.W.subIn K (.ref C) (.ref S) = some true) :
    PySem.W.exmOne K (.ref C) (.ref S) = some true := by
  have e1 : (PySem.W.subIn K (.ref S) (.type "BaseException") == some true) = true := by rw [h1] <;> rfl
  have e2 : ((PySem.W.clsIn K S).isSome && PySem.W.typeIn K (.ref S) == some (.type "type")) = true := by
    have h2' : (PySem.W.clsIn K S).isSome = true := h2
    rw [h2', h3] <;> rfl
  show (if (PySem.W.subIn K (.ref S) (.type "BaseException") == some true) = true then (if ((PySem.W.clsIn K S).isSome && PySem.W.typeIn K (.ref S) == some (.type "type")) = true then PySem.W.subIn K (.ref C) (.ref S) else none) else none) = some true
  rw [if_pos e1, if_pos e2]
  exact h4
theorem room64 {k : Nat} {A : Around} (r : Room k A) : A.units + 64 < cLine := by have := r.un; omega
theorem room70 {k : Nat} {A : Around} (r : Room k A) : A.units + 70 < cLine := by have := r.un; omega
end Z

set_option Elab.async false
set_option linter.all false
set_option maxRecDepth 100000
set_option maxHeartbeats 2000000
/-! Zo: statements that end in some of several ways; loops by an invariant. -/
namespace Z
open PySem PySem.Spec PyProof.Rows L2
structure ExS (W : WX) (ts : TS) (ρ : List Sl) (S : Out → Prop) : Prop where
  run : ∀ {G : Hp} {σ : L2.St} {L0 : List Cell} {H : Hp} (D : Ends), Stt G ρ σ L0 H → (∀ o, S o → Post W D G L0 o) → ts D σ H
section
variable {K : PySem.W.Frag} {W : WX} {ρ ρ' ρ1 : List Sl} {te ta tb : TE} {t u : TS} {tr : TA} {R : Rp} {B : Bw} {o : Out} {i : Nat} {S S' S1 : Out → Prop}
theorem ExS.of (h : Ex W t ρ o) (k : S o) : ExS W t ρ S := ⟨fun D s q => h.run D s (q o k)⟩
theorem ExS.ex (h : ExS W t ρ (fun o' => o' = o)) : Ex W t ρ o := ⟨fun D s q => h.run D s fun o' e => by rw [e]; exact q⟩
theorem ExS.imp (h : ExS W t ρ S) (k : ∀ o, S o → S' o) : ExS W t ρ S' := ⟨fun D s q => h.run D s fun o p => q o (k o p)⟩
theorem ExS.seq (h : Ex W t ρ (.nx ρ1)) (k : ExS W u ρ1 S) : ExS W (tSeq t u) ρ S := ⟨fun D s q => h.run { D with nx := u D } s fun G' σ' H' e s' => k.run D s' fun o p => (q o p).mono e⟩
theorem Post.seqE {D : Ends} {G : Hp} {L0 : List Cell} {N : L2.St → Hp → Prop} (k : o.ends = true) (q : Post W D G L0 o) : Post W { D with nx := N } G L0 o := by
  cases o with
  | nx _ => cases k
  | go _ => cases k
  | bk _ => exact q
  | ct _ => exact q
  | rt _ => exact q
  | ro _ => exact q
  | xc _ _ _ => exact q
theorem ExS.seqS (h : ExS W t ρ S1) (k : ∀ o, S1 o → (∃ ρ1, o = .nx ρ1 ∧ ExS W u ρ1 S) ∨ (o.ends = true ∧ S o)) : ExS W (tSeq t u) ρ S := ⟨fun D s q => h.run { D with nx := u D } s fun o p => by
  rcases k o p with ⟨ρ1, rfl, h2⟩ | ⟨he, hs⟩
  · exact fun G' σ' H' e s' => h2.run D s' fun o p => (q o p).mono e
  · exact (q o hs).seqE he⟩
theorem ExS.seqX (h : Ex W t ρ o) (k : o.ends = true) (hs : S o) : ExS W (tSeq t u) ρ S := ExS.of (h.seqE k) hs
theorem ExS.ife {tc : TT} {b : Bool} (hc : EvT tc ρ b) (h1 : b = true → ExS W t ρ S) (h2 : b = false → ExS W u ρ S) : ExS W (tIfS tc t u) ρ S := ⟨fun D s q => hc.run _ s fun G1 H1 e1 s1 => by
  cases b with
  | true => exact (h1 rfl).run D s1 fun o p => (q o p).mono e1
  | false => exact (h2 rfl).run D s1 fun o p => (q o p).mono e1⟩
theorem ExS.ite {v : TS} {tc : TT} {b : Bool} (hc : EvT tc ρ b) (h1 : b = true → ExS W (tSeq t v) ρ S) (h2 : b = false → ExS W (tSeq u v) ρ S) : ExS W (tSeq (tIfS tc t u) v) ρ S := ⟨fun D s q => hc.run _ s fun G1 H1 e1 s1 => by
  cases b with
  | true => exact (h1 rfl).run D s1 fun o p => (q o p).mono e1
  | false => exact (h2 rfl).run D s1 fun o p => (q o p).mono e1⟩
theorem ExS.skip (h : ExS W u ρ S) : ExS W (tSeq tNext u) ρ S := ExS.seq Ex.next h
theorem ExS.from_ {ρ'} (e : ρ' = ρ) (h : ExS W t ρ' S) : ExS W t ρ S := by rw [← e]; exact h
theorem ExS.weak (w : Wk ρ ρ') (h : ExS W t ρ' S) : ExS W t ρ S := ⟨fun D s q => by
  obtain ⟨G2, e2, s2⟩ := s.weak w
  exact h.run D s2 fun o p => (q o p).mono e2⟩
theorem ExS.freeze {ds : List PyData} (i : Nat) (hi : ρ[i]? = some (.o (oL ds))) (h : ExS W t (ρ.set i (.p (dat (.list ds)))) S) : ExS W t ρ S := ⟨fun {G σ L0 H} D s q => by
  obtain ⟨a, cs, e, ⟨vs, hcs, d⟩, hh, k1, k2⟩ := s.get_o hi
  subst hcs
  obtain ⟨G2, e2, s2⟩ := k2 (dat (.list ds)) fun G' e' hc => Dq.lst (hc (a, .lst vs) (List.mem_cons_self ..)) (dpAll_up e' d)
  exact h.run D s2 fun o p => (q o p).mono e2⟩
theorem ExS.open_ {α : Type} {P : α → Prop} {F : α → Rp} (i : Nat) (hi : ρ[i]? = some (.p (exR P F))) (h : ∀ x, P x → ExS W t (ρ.set i (.p (F x))) S) : ExS W t ρ S := ⟨fun D s q => by
  obtain ⟨L, sl, la⟩ := s
  obtain ⟨x, p, sl'⟩ := sl.open_ hi
  exact (h x p).run D ⟨L, sl', la⟩ q⟩
/-- told less exactly -/
theorem Ex.rtW {R' : Rp} (h : Ex W t ρ (.rt R)) (k : ∀ G v, R.p G v → R'.p G v) : Ex W t ρ (.rt R') := ⟨fun D s q => h.run D s fun G' ρ' σ' H' v e s' r => q G' ρ' σ' H' v e s' (k _ _ r)⟩
theorem Ex.roW {O O' : Op} (h : Ex W t ρ (.ro O)) (k : ∀ G a cs, O.p G a cs → O'.p G a cs) : Ex W t ρ (.ro O') := ⟨fun D s q => h.run D s fun G' H' a cs e l r => q G' H' a cs e l (k _ _ _ r)⟩
/-! ### owned things of which some is told -/
def exO {α : Type} (P : α → Prop) (F : α → Op) : Op := ⟨fun G a cs => ∃ x, P x ∧ (F x).p G a cs, fun e h => by
  obtain ⟨x, p, q⟩ := h
  exact ⟨x, p, (F x).up e q⟩⟩
/-! ### loops -/
theorem ExS.forI {α Sx : Type} {wi : TI} {g : TG} {tb : TS} {xs : List α} {en : α → PyData} (E : Sx → List Sl) (I : List α → Sx → Prop) {s0 : Sx} (hi : EvI K wi ρ (xs.map en)) (h0 : Wk ρ (E s0)) (i0 : I [] s0)
    (hb : ∀ pre x post s, xs = pre ++ x :: post → I pre s → ∃ T ρ1, EvG g T (E s) (dat (en x)) ρ1 ∧ ExS W tb ρ1 (fun o => (∃ s', I (pre ++ [x]) s' ∧ o = .go (E s')) ∨ (o.leaves = true ∧ S (unbk o))))
    (hf : ∀ s, I xs s → S (.nx (E s))) : ExS W (tFor wi g tb) ρ S := ⟨fun {G σ L0 H} D s q => hi.run _ s fun G1 H1 J e1 s1 gv => by
  obtain ⟨G2, e2, s2⟩ := s1.weak h0
  refine ⟨fun i m σ H => m = xs.length - i ∧ i ≤ xs.length ∧ ∃ s G', I (xs.take i) s ∧ Same G2 G' ∧ Stt G' (E s) σ L0 H, ⟨xs.length, by simp, Nat.zero_le _, s0, G2, i0, Same.refl _, s2⟩, ?_⟩
  rintro i m σ' H' ⟨rfl, hi, s', G', hr, e3, s3⟩
  obtain ⟨L3, sl3, la3⟩ := id s3
  have e13 : Same G1 G' := e2.trans e3
  by_cases hlt : i < xs.length
  · right
    have hx : xs[i]? = some xs[i] := List.getElem?_eq_getElem hlt
    have hsplit : xs = xs.take i ++ xs[i] :: xs.drop (i + 1) := by
      rw [List.getElem_cons_drop, List.take_append_drop]
    have htk : xs.take (i + 1) = xs.take i ++ [xs[i]] := by rw [List.take_add_one, hx]; rfl
    obtain ⟨T, ρ1, hg, hbody⟩ := hb _ _ _ s' hsplit hr
    obtain ⟨g1, g2⟩ := gv.go i G' L3 H' e13 la3 (by simpa using hlt)
    refine ⟨g1, fun σ'' H'' => ∃ s G', I (xs.take (i + 1)) s ∧ Same G2 G' ∧ Stt G' (E s) σ'' L0 H'', fun σ'' H'' ⟨s, G'', a, b, c⟩ => ⟨xs.length - (i + 1), by omega, rfl, hlt, s, G'', a, b, c⟩, fun x H4 y => ?_⟩
    obtain ⟨G4, e4, l4, d4⟩ := g2 x H4 y
    have d4 : Dq G4 x (en xs[i]) := by simpa using d4
    have s4 : Stt G4 (E s') σ' L0 H4 := ⟨L3, sl3.up e4, l4 _ la3⟩
    refine hg.run x _ s4 d4 fun G5 σ5 H5 e5 s5 _ => ?_
    have e25 : Same G2 G5 := (e3.trans e4).trans e5
    refine hbody.run _ s5 fun o ho => ?_
    rcases ho with ⟨s6, i6, rfl⟩ | ⟨hl, hs⟩
    · have k : ∀ G6 σ6 H6, Same G5 G6 → Stt G6 (E s6) σ6 L0 H6 → ∃ s G', I (xs.take (i + 1)) s ∧ Same G2 G' ∧ Stt G' (E s) σ6 L0 H6 := fun G6 σ6 H6 e6 st => ⟨s6, G6, by rw [htk]; exact i6, e25.trans e6, st⟩
      exact ⟨k, k⟩
    · have q := (q _ hs).mono (e1.trans (e2.trans e25))
      cases o with
      | nx _ => cases hl
      | go _ => cases hl
      | ct _ => cases hl
      | bk _ => exact q
      | rt _ => exact q
      | ro _ => exact q
      | xc _ _ _ => exact q
  · left
    have e : i = xs.length := by omega
    subst e
    rw [List.take_length] at hr
    exact ⟨gv.stop _ G' L3 H' e13 la3 (by simp), q _ (hf s' hr) G' σ' H' (e1.trans e13) s3⟩⟩
theorem ExS.whileI {Sx : Type} {tc : TT} {tb : TS} (E : Sx → List Sl) (I : Sx → Prop) (μ : Sx → Nat) (b : Sx → Bool) {s0 : Sx} (h0 : Wk ρ (E s0)) (i0 : I s0)
    (ht : ∀ s, I s → EvT tc (E s) (b s))
    (hb : ∀ s, I s → b s = true → ExS W tb (E s) (fun o => (∃ s', I s' ∧ μ s' < μ s ∧ o = .go (E s')) ∨ (o.leaves = true ∧ S (unbk o))))
    (hf : ∀ s, I s → b s = false → S (.nx (E s))) : ExS W (tWhile tc tb) ρ S := ⟨fun {G σ L0 H} D s q => by
  obtain ⟨G2, e2, s2⟩ := s.weak h0
  refine ⟨fun m σ H => ∃ s G', I s ∧ μ s = m ∧ Same G2 G' ∧ Stt G' (E s) σ L0 H, ⟨_, s0, G2, i0, rfl, Same.refl _, s2⟩, ?_⟩
  rintro m σ' H' ⟨s', G', hi, rfl, e3, s3⟩
  refine (ht s' hi).run _ s3 fun G5 H5 e5 s5 => ?_
  have e25 : Same G2 G5 := e3.trans e5
  cases hbb : b s' with
  | true =>
    rw [if_pos rfl]
    refine ⟨fun σ'' H'' => ∃ s G', I s ∧ μ s < μ s' ∧ Same G2 G' ∧ Stt G' (E s) σ'' L0 H'', fun σ'' H'' ⟨s, G'', a, b, c, d⟩ => ⟨μ s, b, s, G'', a, rfl, c, d⟩, ?_⟩
    refine (hb s' hi hbb).run _ s5 fun o ho => ?_
    rcases ho with ⟨s6, i6, m6, rfl⟩ | ⟨hl, hs⟩
    · have k : ∀ G6 σ6 H6, Same G5 G6 → Stt G6 (E s6) σ6 L0 H6 → ∃ s G', I s ∧ μ s < μ s' ∧ Same G2 G' ∧ Stt G' (E s) σ6 L0 H6 := fun G6 σ6 H6 e6 st => ⟨s6, G6, i6, m6, e25.trans e6, st⟩
      exact ⟨k, k⟩
    · have q := (q _ hs).mono (e2.trans e25)
      cases o with
      | nx _ => cases hl
      | go _ => cases hl
      | ct _ => cases hl
      | bk _ => exact q
      | rt _ => exact q
      | ro _ => exact q
      | xc _ _ _ => exact q
  | false =>
    rw [if_neg (by decide)]
    exact q _ (hf s' hi hbb) G5 _ H5 (e2.trans e25) s5⟩
end
end Z

set_option Elab.async false
set_option linter.all false
set_option maxRecDepth 100000
set_option maxHeartbeats 2000000
/-! Zp: texts. -/
namespace Z
open PySem PySem.Spec PyProof.Rows L2
section
variable {K : PySem.W.Frag} {W : WX} {ρ ρ' : List Sl} {te ta tb to : TE} {R : Rp} {B : Bw} {i j : Nat}
def dS (x : Str) : Rp := dat (.str x)
abbrev rAddS : R2 := fun x y H Q => ∃ i j, x = .str i ∧ y = .str j ∧ i.length + j.length ≤ sizeLine ∧ Q (.str (i ++ j)) H
theorem o_addS {a b : Str} (h : a.length + b.length ≤ sizeLine) : Op2 rAddS (pu (dat (.str a))) (pu (dat (.str b))) (dat (.str (a ++ b))) := fun G H L x y Q _ hx hy q => by
  cases hx; cases hy
  exact ⟨a, b, rfl, rfl, h, q _ (Dq.str _)⟩
abbrev cStrI : List V → Hp → VK → Prop := fun xs H Q => ∃ i, xs = [.int i] ∧ i.natAbs.log2 < 1920 ∧ Q (.str (toString i)) H
theorem cl_strI {n : Int} (h : n.natAbs.log2 < 1920) : Cl cStrI [pu (dI n)] (dat (.str (Str.ofString (toString n)))) := fun G H L vs Q l r q => by
  cases r with
  | cons h1 t =>
    cases t; cases h1
    exact ⟨n, rfl, h, q _ (Dq.str _)⟩
abbrev cIntS : List V → Hp → VK → Prop := fun xs H Q => ∃ a n, xs = [.str a] ∧ PySem.intText? a = some n ∧ a.length ≤ 640 ∧ Q (.int n) H
theorem cl_intS {a : Str} {n : Int} (h : PySem.intText? a = some n) (hl : a.length ≤ 640) : Cl cIntS [pu (dat (.str a))] (dI n) := fun G H L vs Q l r q => by
  cases r with
  | cons h1 t =>
    cases t; cases h1
    exact ⟨a, n, rfl, h, hl, q _ (Dq.int _)⟩
abbrev cLenS : List V → Hp → VK → Prop := fun xs H Q => ∃ z, xs = [.str z] ∧ z.length ≤ sizeLine ∧ Q (.int z.length) H
theorem cl_lenStr {a : Str} (hl : a.length ≤ sizeLine) : Cl cLenS [pu (dat (.str a))] (dI a.length) := fun G H L vs Q l r q => by
  cases r with
  | cons h1 t =>
    cases t; cases h1
    exact ⟨a, rfl, hl, q _ (Dq.int _)⟩
abbrev rJoin (K : PySem.W.Frag) : V → List V → Hp → VK → Prop := fun x xs H Q => ∃ a p, ∃ ys : List Str, x = .str a ∧ xs = [.ref p] ∧ (SqL K H p (ys.map V.str) ∨ SqT K H p (ys.map V.str)) ∧ (ys.map (·.length)).sum + ys.length * a.length ≤ 16777216 ∧ Q (.str (Txt.join a ys)) H
abbrev rSplit : V → List V → Hp → VK → Prop := fun x xs H Q => ∃ a b, x = .str a ∧ xs = [.str b] ∧ (b.length == 0) = false ∧ a.length + 2 ≤ sizeLine ∧ rNewStrs (Txt.split a b) H Q
theorem dqAll_strs {G : Hp} : ∀ {vs : List V} {ys : List Str}, DqAll G vs (ys.map PyData.str) → vs = ys.map V.str
  | _, [], h => by cases h; rfl
  | _, y :: ys, h => by
    cases h with
    | cons h1 h2 =>
      cases h1
      rw [dqAll_strs h2]; rfl
theorem dqAll_of_strs {G : Hp} : ∀ (ys : List Str), DqAll G (ys.map V.str) (ys.map PyData.str)
  | [] => .nil
  | y :: ys => .cons (.str y) (dqAll_of_strs ys)
theorem ev_join {a : Str} {ys : List Str} (h : Ev to ρ (pu (dat (.str a)))) (h1 : Ev te ρ (bL (ys.map .str))) (hz : (ys.map (·.length)).sum + ys.length * a.length ≤ 16777216) : Ev (tM1 (rJoin K) to te) ρ (pu (dat (.str (Txt.join a ys)))) := Ev.pure fun Q s q => h.atp s fun G1 H1 v e1 s1 r1 => by
  cases r1
  refine ⟨⟨a, rfl⟩, h1.run _ s1 fun G2 H2 y e2 s2 r2 => ?_⟩
  obtain ⟨L, sl, la⟩ := id s2
  obtain ⟨p, vs, rfl, hv, d⟩ := bl_sq la (r2 G2 L H2 (Same.refl _) sl la)
  have e := dqAll_strs d
  subst e
  exact ⟨a, p, ys, rfl, rfl, .inl (.inl (.inl hv)), hz, q _ _ _ (e1.trans e2) s2 (Dq.str _)⟩
theorem en_split {a b : Str} (h : Ev to ρ (pu (dat (.str a)))) (h1 : Ev te ρ (pu (dat (.str b)))) (hb : (b.length == 0) = false) (hz : a.length + 2 ≤ sizeLine) : EvN (tM1 rSplit to te) ρ ((Txt.split a b).map .str) := ⟨fun Q s q => h.atp s fun G1 H1 v e1 s1 r1 => by
  cases r1
  refine ⟨⟨a, rfl⟩, h1.atp s1 fun G2 H2 y e2 s2 r2 => ?_⟩
  cases r2
  exact ⟨a, b, rfl, rfl, hb, hz, fun p hp => q G2 H2 p _ (e1.trans e2) s2 hp (dqAll_of_strs _)⟩⟩
abbrev rIs0 (f : Str → Bool) : V → List V → Hp → VK → Prop := fun x xs H Q => ∃ a, x = .str a ∧ xs = [] ∧ True ∧ Q (.bl (f a)) H
theorem ev_is0 {f : Str → Bool} {a : Str} (h : Ev to ρ (pu (dat (.str a)))) : Ev (tM0 (rIs0 f) to) ρ (pu (dB (f a))) := Ev.pure fun Q s q => h.atp s fun G1 H1 v e1 s1 r1 => by
  cases r1
  exact ⟨⟨a, rfl⟩, a, rfl, rfl, trivial, q _ _ _ e1 s1 (Dq.bl _)⟩
theorem o_ixStr {z : Str} {n : Int} {c : Nat} (hz : z.length ≤ sizeLine) (h : atI z.cps.toList n = some c) : Op2 rIxS (pu (dat (.str z))) (pu (dI n)) (dat (.str ⟨#[c]⟩)) := fun G H L x y Q _ hx hy q => by
  cases hx; cases hy
  exact ⟨z, n, c, rfl, rfl, hz, h, q _ (Dq.str _)⟩
theorem ev_slS {tl th : TO} {z : Str} {lo hi : Option Int} (h : Ev te ρ (pu (dat (.str z)))) (h1 : EvO tl ρ lo) (h2 : EvO th ρ hi) (hz : z.length ≤ sizeLine) : Ev (tSl rSlS te tl th) ρ (pu (dat (.str (cutS z lo hi)))) := Ev.pure fun Q s q =>
  h.atp s fun G1 H1 v e1 s1 r => h1.run _ s1 fun G2 H2 e2 s2 => h2.run _ s2 fun G3 H3 e3 s3 => by
    cases r
    exact ⟨z, rfl, hz, q _ _ _ ((e1.trans e2).trans e3) s3 (Dq.str _)⟩
theorem o_inS {c : Nat} {z : Str} : Op2 rInS (pu (dat (.str ⟨#[c]⟩))) (pu (dat (.str z))) (dB (decide (c ∈ z.cps.toList))) := fun G H L x y Q _ hx hy q => by
  cases hx; cases hy
  exact ⟨c, z, rfl, rfl, q _ (Dq.bl _)⟩
/-- a walk over a text's signs -/
theorem ei_str {z : Str} (h : Ev te ρ (pu (dat (.str z)))) : EvI K (iStr te) ρ (z.cps.toList.map fun c => .str ⟨#[c]⟩) := ⟨fun Q s q => h.atp s fun G' H' v e s' r => by
  cases r
  refine ⟨z, rfl, q G' H' (Its z) e s' ⟨fun i G L H e2 l hi => ⟨(show i < z.cps.size by simpa using hi), fun x H2 y => ?_⟩, fun i G L H e2 l hi => by show z.cps.size ≤ i; simpa using hi⟩⟩
  obtain ⟨rfl, c, hc, rfl⟩ := y
  refine ⟨G, Same.refl _, fun L l => l, ?_⟩
  have hi' : i < z.cps.size := by simpa using hi
  rw [Array.getElem?_eq_getElem hi'] at hc
  cases hc
  rw [List.getElem_map]
  simp only [Array.getElem_toList]
  exact Dq.str _⟩
/-! ### f-texts -/
inductive EvJ (ρ : List Sl) : List TE → List Str → Prop
  | nil : EvJ ρ [] []
  | cons {t : TE} {ts : List TE} {y : Str} {ys : List Str} (h : Ev t ρ (pu (dat (.str y)))) (r : EvJ ρ ts ys) : EvJ ρ (t :: ts) (y :: ys)
def gluS : Str → List Str → Str
  | acc, [] => acc
  | acc, y :: ys => gluS (acc ++ y) ys
theorem len_app (a b : Str) : (a ++ b).length = a.length + b.length := by
  show (a.cps ++ b.cps).size = a.cps.size + b.cps.size
  exact Array.size_append
theorem evJ_run {ts : List TE} {ys : List Str} (h : EvJ ρ ts ys) : ∀ (acc : Str) {G : Hp} {σ : L2.St} {L0 : List Cell} {H : Hp} (Q : Str → Hp → Prop), Stt G ρ σ L0 H → acc.length + (ys.map (·.length)).sum ≤ sizeLine → (∀ G' H', Same G G' → Stt G' ρ σ L0 H' → Q (gluS acc ys) H') → tJs ts acc σ H Q := by
  induction h with
  | nil => exact fun acc G σ L0 H Q s _ q => q G H (Same.refl _) s
  | @cons t ts y ys h1 _ ih =>
    intro acc G σ L0 H Q s hz q
    refine h1.atp s fun G1 H1 v e1 s1 r1 => ?_
    cases r1
    rw [List.map_cons, List.sum_cons] at hz
    have hl : (acc ++ y).length = acc.length + y.length := len_app acc y
    exact ⟨y, rfl, by omega, ih (acc ++ y) Q s1 (by omega) fun G' H' e' s' => q G' H' (e1.trans e') s'⟩
theorem ev_joined {ts : List TE} {ys : List Str} (h : EvJ ρ ts ys) (hz : (ys.map (·.length)).sum ≤ sizeLine) : Ev (fun σ H Q => tJs ts Str.empty σ H fun out H1 => Q (.str out) H1) ρ (pu (dat (.str (gluS Str.empty ys)))) := Ev.pure fun Q s q =>
  evJ_run h Str.empty _ s (by show 0 + _ ≤ _; omega) fun G' H' e s' => q _ _ _ e s' (Dq.str _)
theorem ev_fmtI {n : Int} (h : Ev te ρ (pu (dI n))) (hn : n.natAbs.log2 < 1920) : Ev (tFmt te) ρ (pu (dat (.str (Str.ofString (toString n))))) := Ev.pure fun Q s q => h.atp s fun G1 H1 v e1 s1 r1 => by
  cases r1
  exact .inr ⟨n, rfl, hn, q _ _ _ e1 s1 (Dq.str _)⟩
/-- x = l.pop(), l an owned list -/
theorem Ex.pop {ds : List PyData} {d : PyData} {T : String} (hi : ρ[i]? = some (.o (oL (ds ++ [d])))) (hT : T = "list") : Ex W (tAsg (tBM0 K T rPop (tVar i)) (gName j)) ρ (.nx ((ρ.set i (.o (oL ds))).set j (.p (dat d)))) := ⟨fun {G σ L0 H} D s q => by
  obtain ⟨a, cs, e, ⟨vs, hcs, hd⟩, hh, k1, _⟩ := s.get_o hi
  subst hcs
  refine ⟨_, e, .inl ⟨hT, vs, .inl (.inl (hh _ (List.mem_cons_self ..)))⟩, ?_⟩
  have hlen := dpAll_len hd
  rw [List.length_append] at hlen
  have hlen : vs.length = ds.length + 1 := hlen
  obtain ⟨y, hy, dy⟩ := dpAll_get (i := ds.length) hd (by rw [List.getElem?_append_right (Nat.le_refl _), Nat.sub_self]; rfl)
  refine ⟨a, vs, y, rfl, rfl, hh _ (List.mem_cons_self ..), by rw [hlen]; exact hy, ?_⟩
  have hd2 : DqAll G vs.dropLast ds := by
    have := dpAll_take ds.length hd
    rw [List.take_left] at this
    rw [List.dropLast_eq_take, hlen]
    exact this
  have s2 := k1 (oL ds) [(a, .lst vs.dropLast)] _ ⟨_, rfl, hd2⟩ fun M l => l.store
  obtain ⟨G2, e2, s3⟩ := s2.set_p (R := dat d) (v := y) dy j
  exact q _ _ _ e2 s3⟩
/-- tuple(l) -/
abbrev cTupOf (K : PySem.W.Frag) : List V → Hp → VK → Prop := fun xs H Q => ∃ p ys, xs = [.ref p] ∧ ((SqL K H p ys ∧ ∀ l, H l = none → Q (.ref l) (upd H l (.tup ys))) ∨ (SqT K H p ys ∧ Q (.ref p) H))
theorem ev_tupOf {ds : List PyData} (h : Ev te ρ (bL ds)) : Ev (tCB (cTupOf K) (tCons te tNil)) ρ (pu (dat (.tuple ds))) := Ev.pure fun Q s q => h.run _ s fun G1 H1 v e1 s1 r => by
  obtain ⟨L, sl, la⟩ := id s1
  obtain ⟨p, vs, rfl, hv, d⟩ := bl_sq la (r G1 L H1 (Same.refl _) sl la)
  refine ⟨p, vs, rfl, .inl ⟨.inl (.inl hv), fun l hl => ?_⟩⟩
  have g := s1.grow (o := .tup vs) hl
  exact q _ _ _ (e1.trans g.1) g.2 (Dq.tup upd_same (dpAll_up g.1 d))
/-- l.count(b), l a list of bools -/
def rCntB : V → List V → Hp → VK → Prop := fun x xs H Q => ∃ (p : Addr) (ns : List Bool) (k : Bool), x = .ref p ∧ xs = [.bl k] ∧ H p = some (.lst (ns.map V.bl)) ∧ Q (.int (countIn (.bool k) (ns.map PyData.bool))) H
theorem vals_bools {hp : Heap} : ∀ {ns : List Bool} {us : List Value}, Vals (ns.map V.bl) us → ∃ as, ReadsAll hp us (ns.map PyData.bool) as
  | [], _, r => by cases r; exact ⟨_, .nil⟩
  | n :: ns, _, r => by
    cases r with
    | cons r1 r2 =>
      cases r1
      obtain ⟨as, h⟩ := vals_bools (hp := hp) r2
      exact ⟨_, .cons (.bool n) h⟩
theorem mt_countB {X : Cx} : MtR X "list.count" rCntB := by
  intro pins s σ H x xs v us Q I rx rxs h
  obtain ⟨p, ns, k, rfl, rfl, hs, q⟩ := h
  cases rx
  obtain ⟨u, rfl, ru⟩ := rxs.one
  cases ru
  obtain ⟨z, its, n, r, hl, e⟩ := I.lstM hs
  obtain ⟨as, ra⟩ := vals_bools (hp := s.heap) r
  refine count_list_bools (l := p) (vs := its) ⟨_, e, rfl, _, rfl⟩ ra ?_ ?_
  · rw [List.all_eq_true]
    intro d hd
    obtain ⟨b, _, rfl⟩ := List.mem_map.mp hd
    rfl
  · exact ⟨.int _, H, I.tok _, ⟨_, rfl⟩, q⟩
theorem ev_cntB {ns : List Bool} {k : Bool} (h : Ev to ρ (bL (ns.map .bool))) : Ev (tBM K "list" rCntB to (tCons (tC (.bl k)) tNil)) ρ (pu (dI (countIn (.bool k) (ns.map PyData.bool)))) := Ev.pure fun Q s q => h.run _ s fun G1 H1 v e1 s1 r => by
  obtain ⟨L, sl, la⟩ := id s1
  obtain ⟨p, vs, rfl, hv, d⟩ := bl_sq la (r G1 L H1 (Same.refl _) sl la)
  have e := dpAll_bools d
  subst e
  exact ⟨.inl ⟨rfl, _, .inl (.inl hv)⟩, p, ns, k, rfl, rfl, hv, q _ _ _ e1 s1 (Dq.int _)⟩
theorem ev_idxB {ns : List Bool} {k : Bool} {j : Nat} (h : Ev to ρ (bL (ns.map .bool))) (hj : ns[j]? = some k) (hm : ∀ m b, m < j → ns[m]? = some b → b ≠ k) : Ev (tBM K "list" (rIndex K) to (tCons (tC (.bl k)) tNil)) ρ (pu (dI (j : Nat))) := Ev.pure fun Q s q => h.run _ s fun G1 H1 v e1 s1 r => by
  obtain ⟨L, sl, la⟩ := id s1
  obtain ⟨p, vs, rfl, hv, d⟩ := bl_sq la (r G1 L H1 (Same.refl _) sl la)
  have e := dpAll_bools d
  subst e
  refine ⟨.inl ⟨rfl, _, .inl (.inl hv)⟩, p, ns.map V.bl, .bl k, j, .bl k, rfl, rfl, .inl (.inl hv), rfl, ?_, by rw [List.getElem?_map, hj]; rfl, by cases k <;> rfl, fun m z hz e => ?_, q _ _ _ e1 s1 (Dq.int _)⟩
  · rw [List.all_eq_true]
    intro z hz
    obtain ⟨b, _, rfl⟩ := List.mem_map.mp hz
    rfl
  · rw [List.getElem?_map] at e
    cases hb : ns[m]? with
    | none => rw [hb] at e; cases e
    | some b =>
      rw [hb] at e
      have e : V.bl b = z := Option.some.inj e
      have hne := hm m b hz hb
      rw [← e]
      cases b <;> cases k <;> first | rfl | exact absurd rfl hne
/-- isinstance(x, T), x a number or a text -/
theorem cl_isS {x : Str} : Cl (rIsi K) [pu (dat (.str x)), pu ⟨fun _ v => v = .ty "str", fun _ h => h⟩] (dB true) := fun G H L vs Q l r q => by
  cases r with
  | cons h1 t =>
    cases t with
    | cons h2 t =>
      cases t; cases h1; cases h2
      exact ⟨_, _, .type "str", .type "str", true, rfl, .ty "str", .base (.str x), kit_ty rfl, q _ (Dq.bl _)⟩
theorem cl_isI {n : Int} : Cl (rIsi K) [pu (dI n), pu ⟨fun _ v => v = .ty "str", fun _ h => h⟩] (dB false) := fun G H L vs Q l r q => by
  cases r with
  | cons h1 t =>
    cases t with
    | cons h2 t =>
      cases t; cases h1; cases h2
      exact ⟨_, _, .type "int", .type "str", false, rfl, .ty "str", .base (.int n), kit_ty (by decide), q _ (Dq.bl _)⟩
theorem kcall_isi (K : PySem.W.Frag) {X : Cx} (h : X.K = K := by rfl) : CallR X (.builtin "isinstance") (rIsi K) := by subst h; exact call_isi
theorem kcall_tuple (K : PySem.W.Frag) {X : Cx} (h : X.K = K := by rfl) : CallR X (.type "tuple") (cTupOf K) := by subst h; exact call_tuple_of
theorem kmt_index (K : PySem.W.Frag) {X : Cx} (h : X.K = K := by rfl) : MtR X "list.index" (rIndex K) := by subst h; exact mt_index
theorem kpe_join (K : PySem.W.Frag) {X : Cx} {o e : Expr} {to te : TE} {apos pos : Pos} (ho : PE X o to) (he : PE X e te) (hs : starEach [e] X.env = [(false, eval e X.env)] := by rfl) (hbase : attributeBase o "join" X.env (eval o X.env) = eval o X.env := by rfl) (hline : (apos.endLine == pos.line) = true := by rfl) (h : X.K = K := by rfl) :
    PE X (.Call (.Attribute o "join" apos) [e] [] pos) (tM1 (rJoin K) to te) := by subst h; exact pe_join ho he hs hbase hline
/-- text * n -/
abbrev rMulS : R2 := fun x y H Q => ∃ a n, x = .str a ∧ y = .int n ∧ MulOk a n ∧ Q (.str (Txt.mul a n)) H
theorem op_mulS {X : Cx} : OpR X (binaryOp .Mult) rMulS := by
  intro pins s σ H x y v u Q I rx ry h
  obtain ⟨a, n, rfl, rfl, hok, q⟩ := h
  obtain ⟨t, rfl⟩ := rx
  obtain ⟨t', rfl⟩ := ry
  exact SB.mul hok fun t' k => ⟨.str (Txt.mul a n), H, I.tok _, ⟨_, rfl⟩, q⟩
theorem o_mulS {a : Str} {n : Int} (h : MulOk a n) : Op2 rMulS (pu (dat (.str a))) (pu (dI n)) (dat (.str (Txt.mul a n))) := fun G H L x y Q _ hx hy q => by
  cases hx; cases hy
  exact ⟨a, n, rfl, rfl, h, q _ (Dq.str _)⟩
end
end Z

set_option Elab.async false
set_option linter.all false
set_option maxRecDepth 100000
set_option maxHeartbeats 2000000
/-! Zq: lists taken apart, a list's truth, None in a list. -/
namespace Z
open PySem PySem.Spec PyProof.Rows L2
section
variable {K : PySem.W.Frag} {W : WX} {ρ ρ' : List Sl} {te ta tb to : TE} {R : Rp} {B : Bw} {i j : Nat}
theorem kpg_lst (K : PySem.W.Frag) {X : Cx} {es : List Expr} {k n : Nat} {t : TGs} {pos : Pos} (hc : X.calm = true) (hp : PGs X es t) (hn : (assignEach es X.env).length = n := by rfl) (hst : (assignEach es X.env).findIdx? (·.1) = none := by rfl) (h : X.K = K := by rfl) : PG X (.Tuple es k pos) (gLst K n t) := by
  subst h; exact pg_lst hc hp hn hst
theorem eg_lst {n : Nat} {gs : TGs} {T : List Nat} {ds : List PyData} (h : EvGs gs T ρ ds ρ') (hn : ds.length = n) : EvG (gLst K n gs) T ρ (dat (.list ds)) ρ' := ⟨fun v Q s r q => by
  have r : Dq _ v (.list ds) := r
  cases r with
  | lst a b => exact ⟨_, _, rfl, .inl (.inl (s.same _ _ a)), by rw [dpAll_len b]; exact hn, h.run _ Q s b q⟩⟩
abbrev tTruth (K : PySem.W.Frag) (te : TE) : TT := fun σ H Q => te σ H fun x H' => ∃ k, TruV K x H' k ∧ Q k H'
theorem et_truthL {ds : List PyData} (h : Ev te ρ (bL ds)) : EvT (tTruth K te) ρ (!ds.isEmpty) := ⟨fun Q s q => h.run _ s fun G1 H1 v e1 s1 r => by
  obtain ⟨L, sl, la⟩ := id s1
  obtain ⟨p, vs, rfl, hv, d⟩ := bl_sq la (r G1 L H1 (Same.refl _) sl la)
  refine ⟨!ds.isEmpty, .inl ⟨vs, .inl (.inl hv), ?_⟩, q _ _ e1 s1⟩
  cases d <;> rfl⟩
def oD : Option Int → PyData
  | none => .none
  | some n => .int n
theorem o_inNone {os : List (Option Int)} : Op2 (rIn K false) (pu (dat .none)) (bL (os.map oD)) (dB (os.any Option.isNone)) := fun G H L x y Q l hx hy q => by
  cases hx
  obtain ⟨p, vs, rfl, hv, d⟩ := bl_sq l hy
  have key : ∀ {vs : List V} {os : List (Option Int)}, DqAll G vs (os.map oD) → vs.all flatV = true ∧ inV .non vs = os.any Option.isNone := by
    intro vs os
    induction os generalizing vs with
    | nil => intro r; cases r; exact ⟨rfl, rfl⟩
    | cons o os ih =>
      intro r
      cases r with
      | cons r1 r2 =>
        have i2 := ih r2
        cases o with
        | none =>
          cases r1
          exact ⟨by rw [List.all_cons, i2.1, Bool.and_true]; rfl, rfl⟩
        | some n =>
          cases r1
          refine ⟨by rw [List.all_cons, i2.1, Bool.and_true]; rfl, ?_⟩
          show inV .non (V.int n :: _) = (false || os.any Option.isNone)
          rw [← i2.2]
          unfold inV
          rw [List.any_cons]
          rfl
  have k := key d
  exact ⟨p, vs, rfl, .inl (.inl (.inl hv)), rfl, k.1, by rw [if_neg (by decide), k.2]; exact q _ (Dq.bl _)⟩
theorem kpe_bm (K : PySem.W.Frag) {X : Cx} {o e : Expr} {es : List Expr} {to : TE} {t : TA} {name : Str} {apos cpos : Pos} {T id : String} {r : V → List V → Hp → VK → Prop} (pa : PlainAttrs T) (slot : Slot T name id) (hty : typeOf (.builtin id) = pure (.type "method_descriptor")) (hm : MtR X id r) (ho : PE X o to) (ha : PA X (e :: es) t)
    (h1 : attributeBase o name X.env (eval o X.env) = eval o X.env := by rfl) (h2 : ((backTo cpos (starEach (e :: es) X.env)).all (fun x => !x.1) && (backToKw cpos (keywordEach [] X.env)).all (fun x => x.1.isSome) && decide ((e :: es).length + ([] : List Keyword).length + (if ([] : List Keyword).isEmpty then 0 else 1) < 30)) = true := by rfl) (h3 : (apos.endLine == cpos.line) = true := by rfl)
    (h4 : starEach (e :: es) X.env = (false, eval e X.env) :: starEach es X.env := by rfl) (h5 : (backTo cpos (starEach es X.env)).any (·.1) = false := by rfl) (h : X.K = K := by rfl) : PE X (.Call (.Attribute o name apos) (e :: es) [] cpos) (tBM K T r to t) := by
  subst h; exact pe_bm pa slot hty hm ho ha h1 h2 h3 h4 h5
theorem ex_opL {C : Addr} {n : Int} {r : R2} (h : EvX W ta ρ C n) : EvX W (tOp r ta tb) ρ C n := ⟨fun Q s q => h.run _ s q⟩
theorem Ex.appendX {C : Addr} {n : Int} {ds : List PyData} {T : String} (hi : ρ[i]? = some (.o (oL ds))) (he : EvX W te ρ C n) (hT : T = "list") : Ex W (tDrop (tBM K T rAppend (tVar i) (tCons te tNil))) ρ (.xc ρ C n) := ⟨fun {G σ L0 H} D s q => by
  obtain ⟨a, cs, e, ⟨vs, hcs, hd⟩, hh, _⟩ := s.get_o hi
  subst hcs
  exact ⟨_, e, .inl ⟨hT, vs, .inl (.inl (hh _ (List.mem_cons_self ..)))⟩, he.run _ s fun G' H' d e s' hd => q G' _ H' d e s' hd⟩⟩
end
end Z

set_option Elab.async false
set_option linter.all false
set_option maxRecDepth 100000
set_option maxHeartbeats 2000000
/-! R: a text of the program as an object that carries its term, what it comes to as a plain function, and the proof. -/
namespace R
open PySem PySem.Spec PyProof.Rows L2 Z
/-- a value: data, the script, an instance whose fields are data -/
inductive Vl where
  | d (x : PyData) | s (xs : List Int) | i (C : Addr) (fs : List (Str × PyData))
abbrev Vl.int (n : Int) : Vl := .d (.int n)
abbrev Vl.bool (b : Bool) : Vl := .d (.bool b)
inductive Rs (α : Type) where
  | ok (a : α) | ex (C : Addr) (n : Int) | no
def Rs.bind {α β : Type} : Rs α → (α → Rs β) → Rs β
  | .ok a, f => f a
  | .ex C n, _ => .ex C n
  | .no, _ => .no
def Rs.of {α : Type} : Option α → Rs α
  | some a => .ok a
  | none => .no
inductive Av where
  | v (a : Vl) | l (ds : List PyData)
inductive Sv where
  | x | v (a : Vl) | bl (ds : List PyData) | ol (ds : List PyData) | er (a d : Addr) (n : Int) | oi (C a : Addr) (fs : List (Str × PyData))
section
variable (K : PySem.W.Frag)
def vr : Vl → Rp
  | .d x => dat x
  | .s xs => scR K xs
  | .i C fs => insR C (fs.map fun p => (p.1, dat p.2))
def bw : Av → Bw
  | .v a => pu (vr K a)
  | .l ds => bL ds
def sl : Sv → Sl
  | .x => .x
  | .v a => .p (vr K a)
  | .bl ds => .b (bL ds)
  | .ol ds => .o (oL ds)
  | .er a d n => .p (errR a d n)
  | .oi C a fs => .o (oI C a (fs.map fun p => (p.1, dat p.2)))
def sls (st : List Sv) : List Sl := st.map (sl K)
end
/-- where a text stands: E of the function, in a try, where nothing may be raised -/
inductive Md where
  | out (E : XK) | tr (W : WX) | qu
def Md.fits : Md → WX → Prop
  | .out E, W => W = WofE E
  | .tr W', W => W = W'
  | .qu, _ => True
def Md.loud : Md → Bool
  | .qu => false
  | _ => true
def EvXg {β : Type} (W : WX) (t : L2.St → Hp → β → Prop) (ρ : List Sl) (C : Addr) (n : Int) : Prop :=
  ∀ {G : Hp} {σ : L2.St} {L0 : List Cell} {H : Hp} (Q : β), Stt G ρ σ L0 H → (∀ G' H' d, Same G G' → Stt G' ρ σ L0 H' → H' d = none → W (.ref C) (some d) σ (upd H' d (atF n))) → t σ H Q
/-- what a text comes to: P where it is a value -/
def Cm {α β : Type} (md : Md) (t : L2.St → Hp → β → Prop) (ρ : List Sl) (P : α → Prop) : Rs α → Prop
  | .ok a => P a
  | .ex C n => md.loud = true → ∀ W, md.fits W → EvXg W t ρ C n
  | .no => True
structure XE (K : PySem.W.Frag) where
  te : Md → TE
  ev : List Sv → Rs Vl
  el : List Sv → Option (List PyData)
  es : List Sv → Option (List PyData)
  ok : ∀ md st, Cm md (te md) (sls K st) (fun a => Ev (te md) (sls K st) (pu (vr K a))) (ev st)
  okl : ∀ md st ds, el st = some ds → Ev (te md) (sls K st) (bL ds)
  oks : ∀ md st ds, es st = some ds → EvS K (te md) (sls K st) ds
structure XN (K : PySem.W.Frag) where
  te : Md → TE
  ev : List Sv → Rs (List PyData)
  ok : ∀ md st, Cm md (te md) (sls K st) (fun ds => EvN (te md) (sls K st) ds) (ev st)
structure XT (K : PySem.W.Frag) where
  tt : Md → TT
  ev : List Sv → Rs Bool
  ok : ∀ md st, Cm md (tt md) (sls K st) (fun b => EvT (tt md) (sls K st) b) (ev st)
structure XA (K : PySem.W.Frag) where
  ta : Md → TA
  ev : List Sv → Rs (List Av)
  ok : ∀ md st, Cm md (ta md) (sls K st) (fun as => EvA (ta md) (sls K st) (as.map (bw K))) (ev st)
structure XO (K : PySem.W.Frag) where
  to : Md → TO
  ev : List Sv → Rs (Option Int)
  ok : ∀ md st, Cm md (to md) (sls K st) (fun k => EvO (to md) (sls K st) k) (ev st)
structure XI (K : PySem.W.Frag) where
  ti : Md → TI
  ev : List Sv → Rs (List PyData)
  ok : ∀ md st, Cm md (ti md) (sls K st) (fun ds => EvI K (ti md) (sls K st) ds) (ev st)
def agree (T : List Nat) (st st' : List Sv) : Prop := st'.length = st.length ∧ ∀ j, j ∉ T → st'[j]? = st[j]?
structure XG (K : PySem.W.Frag) where
  tg : TG
  T : List Nat
  ev : PyData → List Sv → Option (List Sv)
  ok : ∀ d st st', ev d st = some st' → EvG tg T (sls K st) (dat d) (sls K st') ∧ agree T st st'
structure XGs (K : PySem.W.Frag) where
  tg : TGs
  n : Nat
  T : List Nat
  ev : List PyData → List Sv → Option (List Sv)
  ok : ∀ ds st st', ev ds st = some st' → EvGs tg T (sls K st) ds (sls K st') ∧ agree T st st' ∧ ds.length = n
section
variable {K : PySem.W.Frag}
def asL : Vl → Option (List PyData)
  | .d (.list ds) => some ds
  | _ => none
def asS : Vl → Option (List PyData)
  | .d (.list ds) => some ds
  | .s xs => some (xs.map .int)
  | _ => none
def okV {α : Type} : Rs α → Option α
  | .ok a => some a
  | _ => none
theorem okV_some {α : Type} {r : Rs α} {a : α} (h : okV r = some a) : r = .ok a := by
  cases r with
  | ok b => cases h; rfl
  | ex _ _ => cases h
  | no => cases h
theorem asL_ev {md : Md} {te : TE} {ρ : List Sl} {a : Vl} {ds : List PyData} (h : asL a = some ds) (e : Ev te ρ (pu (vr K a))) : Ev te ρ (bL ds) := by
  cases a with
  | s _ => cases h
  | i _ _ => cases h
  | d x =>
    cases x with
    | list es => cases h; exact Ev.bl e
    | _ => cases h
theorem asS_ev {te : TE} {ρ : List Sl} {a : Vl} {ds : List PyData} (h : asS a = some ds) (e : Ev te ρ (pu (vr K a))) : EvS K te ρ ds := by
  cases a with
  | s _ => cases h; exact ev_sS e
  | i _ _ => cases h
  | d x =>
    cases x with
    | list es => cases h; exact Ev.s e
    | _ => cases h
/-- a text whose value is data in any case -/
def XE.of (te : Md → TE) (ev : List Sv → Rs Vl) (ok : ∀ md st, Cm md (te md) (sls K st) (fun a => Ev (te md) (sls K st) (pu (vr K a))) (ev st)) : XE K where
  te := te
  ev := ev
  el := fun st => (okV (ev st)).bind asL
  es := fun st => (okV (ev st)).bind asS
  ok := ok
  okl := fun md st ds h => by
    obtain ⟨a, h1, h2⟩ := Option.bind_eq_some_iff.mp h
    have := ok md st
    rw [okV_some h1] at this
    exact asL_ev (K := K) (md := md) h2 this
  oks := fun md st ds h => by
    obtain ⟨a, h1, h2⟩ := Option.bind_eq_some_iff.mp h
    have := ok md st
    rw [okV_some h1] at this
    exact asS_ev h2 this
theorem sls_get {st : List Sv} {i : Nat} {s : Sv} (h : st[i]? = some s) : (sls K st)[i]? = some (sl K s) := by
  unfold sls
  rw [List.getElem?_map, h]
  rfl
theorem sls_set {st : List Sv} {i : Nat} {s : Sv} : sls K (st.set i s) = (sls K st).set i (sl K s) := by
  unfold sls
  rw [List.map_set]
theorem sls_len {st : List Sv} : (sls K st).length = st.length := by
  unfold sls
  rw [List.length_map]
def XE.var (i : Nat) : XE K where
  te := fun _ => tVar i
  ev := fun st => match st[i]? with
    | some (.v a) => .ok a
    | _ => .no
  el := fun st => match st[i]? with
    | some (.v a) => asL a
    | some (.bl ds) => some ds
    | some (.ol ds) => some ds
    | _ => none
  es := fun st => match st[i]? with
    | some (.v a) => asS a
    | some (.bl ds) => some ds
    | _ => none
  ok := fun md st => by
    cases h : st[i]? with
    | none => trivial
    | some s =>
      cases s with
      | v a => exact ev_var (sls_get (K := K) h)
      | _ => trivial
  okl := fun md st ds => by
    cases h : st[i]? with
    | none => intro z; cases z
    | some s =>
      cases s with
      | v a => exact fun z => asL_ev (K := K) (md := md) z (ev_var (sls_get (K := K) h))
      | bl es => intro z; cases z; exact ev_b (sls_get (K := K) h)
      | ol es => intro z; cases z; exact ev_o (sls_get (K := K) h)
      | _ => intro z; cases z
  oks := fun md st ds => by
    cases h : st[i]? with
    | none => intro z; cases z
    | some s =>
      cases s with
      | v a => exact fun z => asS_ev z (ev_var (sls_get (K := K) h))
      | bl es => intro z; cases z; exact es_b (sls_get (K := K) h)
      | _ => intro z; cases z
def XE.int (n : Int) : XE K := .of (fun _ => tC (.int n)) (fun _ => .ok (.d (.int n))) fun _ _ => ev_int
def XE.bool (b : Bool) : XE K := .of (fun _ => tC (.bl b)) (fun _ => .ok (.d (.bool b))) fun _ _ => ev_bl
def XE.non : XE K := .of (fun _ => tC .non) (fun _ => .ok (.d .none)) fun _ _ => ev_non
def XE.str (s : Str) : XE K := .of (fun _ => tC (.str s)) (fun _ => .ok (.d (.str s))) fun _ _ => ev_str
/-- an argument, as it is read: k where a list may be lent -/
def XE.av (k : Bool) (e : XE K) (st : List Sv) : Rs Av :=
  match k with
  | true => match e.el st with
    | some ds => .ok (.l ds)
    | none => match e.ev st with
      | .ex C n => .ex C n
      | _ => .no
  | false => (e.ev st).bind fun a => .ok (.v a)
theorem XE.av_ok (k : Bool) (e : XE K) (md : Md) (st : List Sv) : Cm md (e.te md) (sls K st) (fun x => Ev (e.te md) (sls K st) (bw K x)) (e.av k st) := by
  unfold XE.av
  have h := e.ok md st
  cases k with
  | false =>
    cases he : e.ev st with
    | ok a => rw [he] at h; exact h
    | ex C n => rw [he] at h; exact h
    | no => trivial
  | true =>
    cases hl : e.el st with
    | some ds => exact e.okl md st ds hl
    | none =>
      cases he : e.ev st with
      | ok a => trivial
      | ex C n => rw [he] at h; exact h
      | no => trivial
theorem Cm.bind {α α' β β' : Type} {md : Md} {t : L2.St → Hp → β → Prop} {t' : L2.St → Hp → β' → Prop} {ρ : List Sl} {P : α → Prop} {P' : α' → Prop} {r : Rs α} {f : α → Rs α'} (h : Cm md t ρ P r)
    (hx : ∀ C n W, EvXg W t ρ C n → EvXg W t' ρ C n) (hk : ∀ a, P a → Cm md t' ρ P' (f a)) : Cm md t' ρ P' (r.bind f) := by
  cases r with
  | ok a => exact hk a h
  | ex C n => exact fun l W w => hx C n W (h l W w)
  | no => trivial
theorem Cm.imp {α β : Type} {md : Md} {t : L2.St → Hp → β → Prop} {ρ : List Sl} {P P' : α → Prop} {r : Rs α} (h : Cm md t ρ P r) (k : ∀ a, P a → P' a) : Cm md t ρ P' r := by
  cases r with
  | ok a => exact k a h
  | ex C n => exact h
  | no => trivial
/-! operators -/
structure O2 (K : PySem.W.Frag) where
  r : R2
  ka : Bool
  kb : Bool
  f : Av → Av → Option Vl
  ok : ∀ x y z, f x y = some z → Op2 r (bw K x) (bw K y) (vr K z)
def XE.op (o : O2 K) (a b : XE K) : XE K := .of (fun md => tOp o.r (a.te md) (b.te md))
  (fun st => (a.av o.ka st).bind fun x => (b.av o.kb st).bind fun y => Rs.of (o.f x y))
  fun md st => (a.av_ok o.ka md st).bind (fun C n W h => fun Q s q => h _ s q) fun x hx =>
    (b.av_ok o.kb md st).bind (fun C n W h => fun {G σ L0 H} Q s q => hx.run _ s fun G1 H1 v e1 s1 _ => h _ s1 fun G2 H2 d e2 s2 hd => q G2 H2 d (e1.trans e2) s2 hd) fun y hy => by
      cases hf : o.f x y with
      | none => trivial
      | some z => exact ev_op hx hy (o.ok x y z hf)
structure O2N (K : PySem.W.Frag) where
  r : R2
  ka : Bool
  kb : Bool
  f : Av → Av → Option (List PyData)
  ok : ∀ x y z, f x y = some z → Op2N r (bw K x) (bw K y) z
def XN.op (o : O2N K) (a b : XE K) : XN K where
  te := fun md => tOp o.r (a.te md) (b.te md)
  ev := fun st => (a.av o.ka st).bind fun x => (b.av o.kb st).bind fun y => Rs.of (o.f x y)
  ok := fun md st => (a.av_ok o.ka md st).bind (fun C n W h => fun Q s q => h _ s q) fun x hx =>
    (b.av_ok o.kb md st).bind (fun C n W h => fun {G σ L0 H} Q s q => hx.run _ s fun G1 H1 v e1 s1 _ => h _ s1 fun G2 H2 d e2 s2 hd => q G2 H2 d (e1.trans e2) s2 hd) fun y hy => by
      cases hf : o.f x y with
      | none => trivial
      | some z => exact ev_opN hx hy (o.ok x y z hf)
/-- a new list as a value -/
def XN.e (a : XN K) : XE K := .of a.te (fun st => (a.ev st).bind fun ds => .ok (.d (.list ds))) fun md st => (a.ok md st).bind (fun _ _ _ h => h) fun ds h => EvN.ev h
def XE.neg (a : XE K) : XE K := .of (fun md => tUn (rU fun i => .int (-i)) (a.te md))
  (fun st => (a.ev st).bind fun x => match x with
    | .d (.int i) => .ok (.d (.int (-i)))
    | _ => .no)
  fun md st => (a.ok md st).bind (fun C n W h => fun Q s q => h _ s q) fun x hx => by
    cases x with
    | s _ => trivial
    | i _ _ => trivial
    | d x =>
      cases x with
      | int i => exact ev_neg hx
      | _ => trivial
def bOf : Vl → Option Bool
  | .d (.bool b) => some b
  | _ => none
theorem bOf_some {x : Vl} {b : Bool} (h : bOf x = some b) : x = .d (.bool b) := by
  cases x with
  | s _ => cases h
  | i _ _ => cases h
  | d x =>
    cases x with
    | bool c => cases h; rfl
    | _ => cases h
/-- the truth of a text that is a bool -/
def XE.bv (e : XE K) (st : List Sv) : Rs Bool := (e.ev st).bind fun x => Rs.of (bOf x)
theorem XE.bv_ok (e : XE K) (md : Md) (st : List Sv) : Cm md (e.te md) (sls K st) (fun b => Ev (e.te md) (sls K st) (pu (dB b))) (e.bv st) :=
  (e.ok md st).bind (fun _ _ _ h => h) fun x hx => by
    cases h : bOf x with
    | none => trivial
    | some b => rw [bOf_some h] at hx; exact hx
def XE.andV (a b : XE K) : XE K := .of (fun md => tAndV (a.te md) (b.te md))
  (fun st => (a.bv st).bind fun x => match x with
    | true => (b.bv st).bind fun y => .ok (.d (.bool y))
    | false => .ok (.d (.bool false)))
  fun md st => (a.bv_ok md st).bind (fun C n W h => fun Q s q => h _ s q) fun x hx => by
    cases x with
    | false => exact ev_andV (b := false) hx (fun z => nomatch z)
    | true =>
      refine (b.bv_ok md st).bind (fun C n W h => fun {G σ L0 H} Q s q => hx.atp s fun G1 H1 v e1 s1 r => ?_) fun y hy => ev_andV hx fun _ => hy
      cases r
      exact ⟨true, rfl, by rw [if_pos rfl]; exact h _ s1 fun G2 H2 d e2 s2 hd => q G2 H2 d (e1.trans e2) s2 hd⟩
def XE.orV (a b : XE K) : XE K := .of (fun md => tOrV (a.te md) (b.te md))
  (fun st => (a.bv st).bind fun x => match x with
    | false => (b.bv st).bind fun y => .ok (.d (.bool y))
    | true => .ok (.d (.bool true)))
  fun md st => (a.bv_ok md st).bind (fun C n W h => fun Q s q => h _ s q) fun x hx => by
    cases x with
    | true => exact ev_orV (b := true) hx (fun z => nomatch z)
    | false =>
      refine (b.bv_ok md st).bind (fun C n W h => fun {G σ L0 H} Q s q => hx.atp s fun G1 H1 v e1 s1 r => ?_) fun y hy => ev_orV hx fun _ => hy
      cases r
      exact ⟨false, rfl, by rw [if_neg (by decide)]; exact h _ s1 fun G2 H2 d e2 s2 hd => q G2 H2 d (e1.trans e2) s2 hd⟩
def XE.notV (a : XE K) : XE K := .of (fun md => tNotV (a.te md)) (fun st => (a.bv st).bind fun x => .ok (.d (.bool (!x))))
  fun md st => (a.bv_ok md st).bind (fun C n W h => fun Q s q => h _ s q) fun x hx => ev_notV hx
end
end R

set_option Elab.async false
set_option linter.all false
set_option maxRecDepth 100000
set_option maxHeartbeats 2000000
namespace R
open PySem PySem.Spec PyProof.Rows L2 Z
section
variable {K : PySem.W.Frag}
theorem tt_x {te : TE} {tt : TT} {ρ : List Sl} {C : Addr} {n : Int} {W : WX} (k : ∀ σ H Q, (te σ H fun _ _ => False) → tt σ H Q) (h : EvXg W te ρ C n) : EvXg W tt ρ C n := fun Q s q => k _ _ _ (h _ s q)
def XT.test (e : XE K) : XT K where
  tt := fun md => tTest (e.te md)
  ev := fun st => e.bv st
  ok := fun md st => by
    have h := e.bv_ok md st
    cases he : e.bv st with
    | ok b => rw [he] at h; exact et_test h
    | ex C n => rw [he] at h; exact fun l W w => fun Q s q => h l W w _ s q
    | no => trivial
def XT.B (e : XE K) : XT K where
  tt := fun md => tB (e.te md)
  ev := fun st => e.bv st
  ok := fun md st => by
    have h := e.bv_ok md st
    cases he : e.bv st with
    | ok b => rw [he] at h; exact et_B h
    | ex C n => rw [he] at h; exact fun l W w => fun Q s q => h l W w _ s q
    | no => trivial
def XT.and (a b : XT K) : XT K where
  tt := fun md => tAnd (a.tt md) (b.tt md)
  ev := fun st => (a.ev st).bind fun x => match x with
    | true => b.ev st
    | false => .ok false
  ok := fun md st => (a.ok md st).bind (fun C n W h => fun Q s q => h _ s q) fun x hx => by
    cases x with
    | false => exact et_and (b := false) hx (fun z => nomatch z)
    | true =>
      have hb := b.ok md st
      show Cm md _ _ _ (b.ev st)
      cases he : b.ev st with
      | ok y => rw [he] at hb; exact et_and hx fun _ => hb
      | ex C n =>
        rw [he] at hb
        exact fun l W w => fun {G σ L0 H} Q s q => hx.run _ s fun G1 H1 e1 s1 => by
          rw [if_pos rfl]
          exact hb l W w _ s1 fun G2 H2 d e2 s2 hd => q G2 H2 d (e1.trans e2) s2 hd
      | no => trivial
def XT.or (a b : XT K) : XT K where
  tt := fun md => tOr (a.tt md) (b.tt md)
  ev := fun st => (a.ev st).bind fun x => match x with
    | false => b.ev st
    | true => .ok true
  ok := fun md st => (a.ok md st).bind (fun C n W h => fun Q s q => h _ s q) fun x hx => by
    cases x with
    | true => exact et_or (b := true) hx (fun z => nomatch z)
    | false =>
      have hb := b.ok md st
      show Cm md _ _ _ (b.ev st)
      cases he : b.ev st with
      | ok y => rw [he] at hb; exact et_or hx fun _ => hb
      | ex C n =>
        rw [he] at hb
        exact fun l W w => fun {G σ L0 H} Q s q => hx.run _ s fun G1 H1 e1 s1 => by
          rw [if_neg (by decide)]
          exact hb l W w _ s1 fun G2 H2 d e2 s2 hd => q G2 H2 d (e1.trans e2) s2 hd
      | no => trivial
def XT.not (a : XT K) : XT K where
  tt := fun md => tNot (a.tt md)
  ev := fun st => (a.ev st).bind fun x => .ok (!x)
  ok := fun md st => (a.ok md st).bind (fun C n W h => fun Q s q => h _ s q) fun x hx => et_not hx
def XT.truthL (e : XE K) : XT K where
  tt := fun md => tTruth K (e.te md)
  ev := fun st => Rs.of ((e.el st).map fun ds => !ds.isEmpty)
  ok := fun md st => by
    cases h : e.el st with
    | none => trivial
    | some ds => exact et_truthL (e.okl md st ds h)
def XT.yes : XT K where
  tt := fun _ => tYes
  ev := fun _ => .ok true
  ok := fun md st => ⟨fun Q s q => q _ _ (Same.refl _) s⟩
def XE.ife (t : XT K) (a b : XE K) : XE K := .of (fun md => tIf (t.tt md) (a.te md) (b.te md))
  (fun st => (t.ev st).bind fun x => match x with
    | true => a.ev st
    | false => b.ev st)
  fun md st => (t.ok md st).bind (fun C n W h => fun Q s q => h _ s q) fun x hx => by
    cases x with
    | true =>
      have ha := a.ok md st
      show Cm md _ _ _ (a.ev st)
      cases he : a.ev st with
      | ok y => rw [he] at ha; exact ev_if hx (fun _ => ha) (fun z => nomatch z)
      | ex C n =>
        rw [he] at ha
        exact fun l W w => fun {G σ L0 H} Q s q => hx.run _ s fun G1 H1 e1 s1 => by
          rw [if_pos rfl]
          exact ha l W w _ s1 fun G2 H2 d e2 s2 hd => q G2 H2 d (e1.trans e2) s2 hd
      | no => trivial
    | false =>
      have hb := b.ok md st
      show Cm md _ _ _ (b.ev st)
      cases he : b.ev st with
      | ok y => rw [he] at hb; exact ev_if hx (fun z => nomatch z) (fun _ => hb)
      | ex C n =>
        rw [he] at hb
        exact fun l W w => fun {G σ L0 H} Q s q => hx.run _ s fun G1 H1 e1 s1 => by
          rw [if_neg (by decide)]
          exact hb l W w _ s1 fun G2 H2 d e2 s2 hd => q G2 H2 d (e1.trans e2) s2 hd
      | no => trivial
def XE.chain (o o' : O2 K) (a b c : XE K) : XE K := .of (fun md => tChain o.r o'.r (a.te md) (b.te md) (c.te md))
  (fun st => (a.av o.ka st).bind fun x => (b.av o.kb st).bind fun y => match (o.f x y).bind bOf with
    | some false => .ok (.d (.bool false))
    | some true => match okV (c.av o'.kb st) with
      | some w => Rs.of (((o'.f y w).bind bOf).map fun k => .d (.bool k))
      | none => .no
    | none => .no)
  fun md st => (a.av_ok o.ka md st).bind (fun C n W h => fun Q s q => h _ s q) fun x hx =>
    (b.av_ok o.kb md st).bind (fun C n W h => fun {G σ L0 H} Q s q => hx.run _ s fun G1 H1 v e1 s1 _ => h _ s1 fun G2 H2 d e2 s2 hd => q G2 H2 d (e1.trans e2) s2 hd) fun y hy => by
      have ho : ∀ k, (o.f x y).bind bOf = some k → Op2 o.r (bw K x) (bw K y) (dB k) := fun k h => by
        obtain ⟨z, h1, h2⟩ := Option.bind_eq_some_iff.mp h
        have := o.ok x y z h1
        rw [bOf_some h2] at this
        exact this
      cases hf : (o.f x y).bind bOf with
      | none => simp only [hf]; trivial
      | some k =>
        cases k with
        | false => simp only [hf]; exact ev_chain (a := false) (b := false) (Bc := pu (dB true)) (r' := o'.r) hx hy (fun z => nomatch z) (ho _ hf) (fun z => nomatch z)
        | true =>
          simp only [hf]
          cases hc : okV (c.av o'.kb st) with
          | none => simp only; trivial
          | some w =>
            have hcv := c.av_ok o'.kb md st
            rw [okV_some hc] at hcv
            simp only
            cases hg : (o'.f y w).bind bOf with
            | none => trivial
            | some k2 =>
              obtain ⟨z, h1, h2⟩ := Option.bind_eq_some_iff.mp hg
              have h3 := o'.ok y w z h1
              rw [bOf_some h2] at h3
              exact ev_chain hx hy (fun _ => hcv) (ho _ hf) (fun _ => h3)
end
end R

set_option Elab.async false
set_option linter.all false
set_option maxRecDepth 100000
set_option maxHeartbeats 2000000
namespace R
open PySem PySem.Spec PyProof.Rows L2 Z
section
variable {K : PySem.W.Frag}
def XA.nil : XA K where
  ta := fun _ => tNil
  ev := fun _ => .ok []
  ok := fun md st => ea_nil
def XA.cons (k : Bool) (e : XE K) (r : XA K) : XA K where
  ta := fun md => tCons (e.te md) (r.ta md)
  ev := fun st => (e.av k st).bind fun x => (r.ev st).bind fun xs => .ok (x :: xs)
  ok := fun md st => (e.av_ok k md st).bind (fun C n W h => fun Q s q => h _ s q) fun x hx =>
    (r.ok md st).bind (fun C n W h => fun {G σ L0 H} Q s q => hx.run _ s fun G1 H1 v e1 s1 _ => h _ s1 fun G2 H2 d e2 s2 hd => q G2 H2 d (e1.trans e2) s2 hd) fun xs hxs => ea_cons hx hxs
/-- arguments that are all data -/
def avD : List Av → Option (List PyData)
  | [] => some []
  | .v (.d x) :: r => (avD r).map (x :: ·)
  | _ => none
theorem avD_bw : ∀ {as : List Av} {ds : List PyData}, avD as = some ds → as.map (bw K) = ds.map fun d => pu (dat d)
  | [], ds, h => by cases h; rfl
  | .v (.d x) :: r, ds, h => by
    obtain ⟨ds', h1, h2⟩ := Option.map_eq_some_iff.mp (show (avD r).map (x :: ·) = some ds from h)
    subst h2
    rw [List.map_cons, List.map_cons, avD_bw h1]
    rfl
  | .v (.s _) :: r, ds, h => by cases h
  | .v (.i _ _) :: r, ds, h => by cases h
  | .l _ :: r, ds, h => by cases h
def XA.dev (as : XA K) (st : List Sv) : Rs (List PyData) := (as.ev st).bind fun xs => match avD xs with
  | some ds => if ds.length ≤ 1000 then .ok ds else .no
  | none => .no
theorem XA.dev_ok (as : XA K) (md : Md) (st : List Sv) : Cm md (as.ta md) (sls K st) (fun ds => EvA (as.ta md) (sls K st) (ds.map fun d => pu (dat d)) ∧ ds.length ≤ 1000) (as.dev st) :=
  (as.ok md st).bind (fun _ _ _ h => h) fun xs hx => by
    cases h : avD xs with
    | none => simp only; trivial
    | some ds =>
      rw [avD_bw h] at hx
      simp only
      split
      · exact ⟨hx, by assumption⟩
      · trivial
def XE.tup (as : XA K) : XE K := .of (fun md => tTup (as.ta md)) (fun st => (as.dev st).bind fun ds => .ok (.d (.tuple ds)))
  fun md st => (as.dev_ok md st).bind (fun C n W h => fun Q s q => h _ s q) fun ds h => ev_tup h.1 h.2
def XN.lst (as : XA K) : XN K where
  te := fun md => tLst (as.ta md)
  ev := fun st => as.dev st
  ok := fun md st => by
    have h := as.dev_ok md st
    cases he : as.dev st with
    | ok ds => rw [he] at h; exact en_lst h.1 h.2
    | ex C n => rw [he] at h; exact fun l W w => fun Q s q => h l W w _ s q
    | no => trivial
structure Bi (K : PySem.W.Frag) where
  r : List V → Hp → VK → Prop
  f : List Av → Option Vl
  ok : ∀ as z, f as = some z → Cl r (as.map (bw K)) (vr K z)
def XE.bi (b : Bi K) (as : XA K) : XE K := .of (fun md => tCB b.r (as.ta md)) (fun st => (as.ev st).bind fun xs => Rs.of (b.f xs))
  fun md st => (as.ok md st).bind (fun C n W h => fun Q s q => h _ s q) fun xs h => by
    cases hf : b.f xs with
    | none => trivial
    | some z => exact ev_cb h (b.ok xs z hf)
structure BiN (K : PySem.W.Frag) where
  r : List V → Hp → VK → Prop
  f : List Av → Option (List PyData)
  ok : ∀ as z, f as = some z → ClN r (as.map (bw K)) z
def XN.bi (b : BiN K) (as : XA K) : XN K where
  te := fun md => tCB b.r (as.ta md)
  ev := fun st => (as.ev st).bind fun xs => Rs.of (b.f xs)
  ok := fun md st => (as.ok md st).bind (fun C n W h => fun Q s q => h _ s q) fun xs h => by
    cases hf : b.f xs with
    | none => trivial
    | some z => exact en_cb h (b.ok xs z hf)
/-! functions of the program -/
structure Fn where
  m : Nat
  own : Bool
  f : List Av → Rs Vl
def resOf (K : PySem.W.Frag) (own : Bool) : Rs Vl → Res
  | .ok a => match own with
    | true => match asL a with
      | some ds => .own (oL ds)
      | none => .ok (vr K a)
    | false => .ok (vr K a)
  | .ex C n => .err C n
  | .no => .ok (dat .none)
def Fn.sp (K : PySem.W.Frag) (F : Fn) : Sp := SpA (α := {xs : List Av // xs.length = F.m}) (fun x => F.f x.1 ≠ .no) (fun x => x.1.map (bw K)) (fun x => resOf K F.own (F.f x.1))
def callT (md : Md) (sp : Sp) (t : TA) : TE := match md with
  | .out E => tCall sp [] E t
  | .tr W => tCallS sp (WE W) t
  | .qu => tCall sp [] (fun _ _ _ => False) t
theorem call_any {sp : Sp} {t : TA} {ρ : List Sl} {md : Md} {R : Rp} (h : ∀ E, Ev (tCall sp [] E t) ρ (pu R)) (h2 : ∀ E, Ev (tCallS sp E t) ρ (pu R)) : Ev (callT md sp t) ρ (pu R) := by
  cases md with
  | out E => exact h E
  | tr W => exact h2 _
  | qu => exact h _
theorem en_callS {α : Type} {pre : α → Prop} {A : α → List Bw} {F : α → Res} {tr : TA} {ρ : List Sl} {ds : List PyData} {E : L2.St → XK} (x : α) (ha : EvA tr ρ (A x)) (hp : pre x) (hR : F x = .own (oL ds)) : EvN (tCallS (SpA pre A F) E tr) ρ ds := ⟨fun {G σ L0 H} Q s q => ha.at s fun G1 H1 vs L e1 sl la r => by
  refine ⟨x, G1, L ++ L0, hp, la, r, ?_⟩
  rw [hR]
  intro G2 H2 a2 cs e2 l2 ro
  obtain ⟨ws, hcs, d⟩ := ro
  subst hcs
  obtain ⟨H3, hn3, rfl, l3⟩ := Lay.uncell l2
  exact q G2 H3 _ ws (e1.trans e2) ⟨L, sl.up e2, l3⟩ hn3 d⟩
theorem call_args (F : Fn) (as : XA K) (md : Md) (ρ : List Sl) (xs : List Av) (hm : xs.length = F.m) (h : EvA (as.ta md) ρ (xs.map (bw K))) : Cm md (callT md (F.sp K) (as.ta md)) ρ (fun a => match F.own with
    | true => ∃ ds, a = .d (.list ds) ∧ EvN (callT md (F.sp K) (as.ta md)) ρ ds
    | false => Ev (callT md (F.sp K) (as.ta md)) ρ (pu (vr K a))) (match F.f xs, F.own with
    | .ok a, true => (match asL a with
      | some ds => .ok a
      | none => .no)
    | r, _ => r) := by
  cases hf : F.f xs with
  | no => simp only; trivial
  | ex C n =>
    simp only
    intro l W w
    have hR : resOf K F.own (F.f xs) = .err C n := by rw [hf]; rfl
    cases md with
    | qu => cases l
    | out E =>
      subst w
      exact fun {G σ L0 H} Q s q => (ex_call (α := {xs : List Av // xs.length = F.m}) (A := fun x => x.1.map (bw K)) (F := fun x => resOf K F.own (F.f x.1)) (pre := fun x => F.f x.1 ≠ .no) ⟨xs, hm⟩ h (by rw [hf]; exact fun z => by cases z) hR).run Q s q
    | tr W' =>
      subst w
      exact fun {G σ L0 H} Q s q => (ex_callS (α := {xs : List Av // xs.length = F.m}) (A := fun x => x.1.map (bw K)) (F := fun x => resOf K F.own (F.f x.1)) (pre := fun x => F.f x.1 ≠ .no) ⟨xs, hm⟩ h (by rw [hf]; exact fun z => by cases z) hR).run Q s q
  | ok a =>
    cases ho : F.own with
    | false =>
      simp only
      have hR : resOf K F.own (F.f xs) = .ok (vr K a) := by rw [hf, ho]; rfl
      exact call_any (fun E => ev_call (α := {xs : List Av // xs.length = F.m}) (A := fun x => x.1.map (bw K)) (F := fun x => resOf K F.own (F.f x.1)) (pre := fun x => F.f x.1 ≠ .no) ⟨xs, hm⟩ h (by rw [hf]; exact fun z => by cases z) hR)
        (fun E => ev_callS (α := {xs : List Av // xs.length = F.m}) (A := fun x => x.1.map (bw K)) (F := fun x => resOf K F.own (F.f x.1)) (pre := fun x => F.f x.1 ≠ .no) ⟨xs, hm⟩ h (by rw [hf]; exact fun z => by cases z) hR)
    | true =>
      simp only
      cases hl : asL a with
      | none => simp only; trivial
      | some ds =>
        simp only
        have hR : resOf K F.own (F.f xs) = .own (oL ds) := by rw [hf, ho]; unfold resOf; simp only [hl]
        refine ⟨ds, ?_, ?_⟩
        · cases a with
          | s _ => cases hl
          | i _ _ => cases hl
          | d x => cases x with
            | list es => cases hl; rfl
            | _ => cases hl
        · cases md with
          | out E => exact en_call (α := {xs : List Av // xs.length = F.m}) (A := fun x => x.1.map (bw K)) (F := fun x => resOf K F.own (F.f x.1)) (pre := fun x => F.f x.1 ≠ .no) ⟨xs, hm⟩ h (by rw [hf]; exact fun z => by cases z) hR
          | tr W => exact en_callS (α := {xs : List Av // xs.length = F.m}) (A := fun x => x.1.map (bw K)) (F := fun x => resOf K F.own (F.f x.1)) (pre := fun x => F.f x.1 ≠ .no) ⟨xs, hm⟩ h (by rw [hf]; exact fun z => by cases z) hR
          | qu => exact en_call (α := {xs : List Av // xs.length = F.m}) (A := fun x => x.1.map (bw K)) (F := fun x => resOf K F.own (F.f x.1)) (pre := fun x => F.f x.1 ≠ .no) ⟨xs, hm⟩ h (by rw [hf]; exact fun z => by cases z) hR
def XE.call (F : Fn) (ho : F.own = false) (as : XA K) : XE K := .of (fun md => callT md (F.sp K) (as.ta md)) (fun st => (as.ev st).bind fun xs => if xs.length = F.m then F.f xs else .no)
  fun md st => (as.ok md st).bind (fun C n W h => by
    cases md with
    | out E => exact fun Q s q => h _ s q
    | tr W => exact fun Q s q => h _ s q
    | qu => exact fun Q s q => h _ s q) fun xs h => by
    by_cases hm : xs.length = F.m
    · rw [if_pos hm]
      have := call_args F as md (sls K st) xs hm h
      rw [ho] at this
      cases hf : F.f xs with
      | no => trivial
      | ex C n => rw [hf] at this; exact this
      | ok a => rw [hf] at this; exact this
    · rw [if_neg hm]; trivial
def lOf : Vl → Rs (List PyData)
  | .d (.list ds) => .ok ds
  | _ => .no
def XN.call (F : Fn) (ho : F.own = true) (as : XA K) : XN K where
  te := fun md => callT md (F.sp K) (as.ta md)
  ev := fun st => (as.ev st).bind fun xs => if xs.length = F.m then (F.f xs).bind lOf else .no
  ok := fun md st => (as.ok md st).bind (fun C n W h => by
    cases md with
    | out E => exact fun Q s q => h _ s q
    | tr W => exact fun Q s q => h _ s q
    | qu => exact fun Q s q => h _ s q) fun xs h => by
    by_cases hm : xs.length = F.m
    · rw [if_pos hm]
      have := call_args F as md (sls K st) xs hm h
      rw [ho] at this
      cases hf : F.f xs with
      | no => trivial
      | ex C n => rw [hf] at this; exact this
      | ok a =>
        rw [hf] at this
        show Cm _ _ _ _ (lOf a)
        cases a with
        | s _ => trivial
        | i _ _ => trivial
        | d x =>
          cases x with
          | list ds =>
            obtain ⟨ds', e, h'⟩ := this
            cases e
            exact h'
          | _ => trivial
    · rw [if_neg hm]; trivial
end
end R

set_option Elab.async false
set_option linter.all false
set_option maxRecDepth 100000
set_option maxHeartbeats 2000000
namespace R
open PySem PySem.Spec PyProof.Rows L2 Z
section
variable {K : PySem.W.Frag}
/-! slices -/
def XO.none : XO K where
  to := fun _ => tNoPart
  ev := fun _ => .ok Option.none
  ok := fun _ _ => eo_none
def iOf : Vl → Option Int
  | .d (.int n) => some n
  | _ => none
theorem iOf_some {x : Vl} {n : Int} (h : iOf x = some n) : x = .d (.int n) := by
  cases x with
  | s _ => cases h
  | i _ _ => cases h
  | d x =>
    cases x with
    | int c => cases h; rfl
    | _ => cases h
def XE.iv (e : XE K) (st : List Sv) : Rs Int := (e.ev st).bind fun x => Rs.of (iOf x)
theorem XE.iv_ok (e : XE K) (md : Md) (st : List Sv) : Cm md (e.te md) (sls K st) (fun b => Ev (e.te md) (sls K st) (pu (dI b))) (e.iv st) :=
  (e.ok md st).bind (fun _ _ _ h => h) fun x hx => by
    cases h : iOf x with
    | none => trivial
    | some b => rw [iOf_some h] at hx; exact hx
def XO.some (e : XE K) : XO K where
  to := fun md => tPart (e.te md)
  ev := fun st => (e.iv st).bind fun n => .ok (Option.some n)
  ok := fun md st => (e.iv_ok md st).bind (fun C n W h => fun Q s q => h _ s q) fun n h => eo_some h
def XN.sl (e : XE K) (lo hi : XO K) : XN K where
  te := fun md => tSl (rSlL K) (e.te md) (lo.to md) (hi.to md)
  ev := fun st => match e.el st, okV (lo.ev st), okV (hi.ev st) with
    | .some ds, .some l, .some h => .ok (cutD ds l h)
    | _, _, _ => .no
  ok := fun md st => by
    cases h1 : e.el st with
    | none => simp only; trivial
    | some ds =>
      cases h2 : okV (lo.ev st) with
      | none => simp only; trivial
      | some l =>
        cases h3 : okV (hi.ev st) with
        | none => simp only; trivial
        | some u =>
          have o1 := lo.ok md st
          have o2 := hi.ok md st
          rw [okV_some h2] at o1
          rw [okV_some h3] at o2
          exact en_sl (e.okl md st ds h1) o1 o2
/-! walks -/
def XI.list (e : XE K) : XI K where
  ti := fun md => iList K (e.te md)
  ev := fun st => match e.es st with
    | .some ds => .ok ds
    | .none => match e.ev st with
      | .ex C n => .ex C n
      | _ => .no
  ok := fun md st => by
    cases h : e.es st with
    | some ds => exact ei_list (e.oks md st ds h)
    | none =>
      have := e.ok md st
      cases he : e.ev st with
      | ok a => simp only; trivial
      | no => simp only; trivial
      | ex C n => simp only; rw [he] at this; exact fun l W w => fun Q s q => this l W w _ s q
def avI1 : List Av → Option Int
  | [.v (.d (.int n))] => some n
  | _ => none
theorem avI1_some {as : List Av} {n : Int} (h : avI1 as = some n) : as = [.v (.d (.int n))] := by
  unfold avI1 at h
  split at h
  · cases h; rfl
  · cases h
def avI2 : List Av → Option (Int × Int)
  | [.v (.d (.int n)), .v (.d (.int m))] => some (n, m)
  | _ => none
theorem avI2_some {as : List Av} {n : Int × Int} (h : avI2 as = some n) : as = [.v (.d (.int n.1)), .v (.d (.int n.2))] := by
  unfold avI2 at h
  split at h
  · cases h; rfl
  · cases h
def XI.range1 (as : XA K) : XI K where
  ti := fun md => iRng1 (as.ta md)
  ev := fun st => (as.ev st).bind fun xs => match avI1 xs with
    | some n => if n.natAbs < 4611686018427387904 then .ok (irange 0 n.toNat) else .no
    | none => .no
  ok := fun md st => (as.ok md st).bind (fun C n W h => fun Q s q => h _ s q) fun xs h => by
    cases hx : avI1 xs with
    | none => simp only; trivial
    | some n =>
      rw [avI1_some hx] at h
      simp only
      split
      · rename_i hn
        exact ei_range1 h (by omega) (by omega)
      · trivial
def XI.range2 (as : XA K) : XI K where
  ti := fun md => iRng2 (as.ta md)
  ev := fun st => (as.ev st).bind fun xs => match avI2 xs with
    | some n => if n.1.natAbs < 4611686018427387904 ∧ n.2.natAbs < 4611686018427387904 then .ok (irange n.1 (n.2 - n.1).toNat) else .no
    | none => .no
  ok := fun md st => (as.ok md st).bind (fun C n W h => fun Q s q => h _ s q) fun xs h => by
    cases hx : avI2 xs with
    | none => simp only; trivial
    | some n =>
      rw [avI2_some hx] at h
      simp only
      split
      · rename_i hn
        exact ei_range2 h (by omega) (by omega) (by omega) (by omega)
      · trivial
def enumD (ds : List PyData) : List PyData := ds.zipIdx.map fun p => .tuple [.int ((p.2 : Nat) : Int), p.1]
def XI.enum (e : XE K) : XI K where
  ti := fun md => iEnum K (tCons (e.te md) tNil)
  ev := fun st => match e.es st with
    | .some ds => .ok (enumD ds)
    | .none => .no
  ok := fun md st => by
    cases h : e.es st with
    | some ds => exact ei_enum (e.oks md st ds h)
    | none => trivial
/-! targets -/
theorem agree_refl {st : List Sv} : agree [] st st := ⟨rfl, fun _ _ => rfl⟩
def XG.name (i : Nat) : XG K where
  tg := gName i
  T := [i]
  ev := fun d st => if i < st.length then some (st.set i (.v (.d d))) else none
  ok := fun d st st' h => by
    split at h
    · cases h
      refine ⟨?_, by rw [List.length_set], fun j hj => List.getElem?_set_ne (fun z => hj (by rw [z]; exact List.mem_cons_self ..))⟩
      rw [sls_set]
      exact eg_name
    · cases h
def XGs.nil : XGs K where
  tg := gNil
  n := 0
  T := []
  ev := fun ds st => match ds with
    | [] => some st
    | _ => none
  ok := fun ds st st' h => by
    cases ds with
    | nil => cases h; exact ⟨egs_nil, agree_refl, rfl⟩
    | cons _ _ => cases h
def XGs.cons (g : XG K) (r : XGs K) : XGs K where
  tg := gCons g.tg r.tg
  n := r.n + 1
  T := g.T ++ r.T
  ev := fun ds st => match ds with
    | d :: ds => (g.ev d st).bind fun st1 => r.ev ds st1
    | [] => none
  ok := fun ds st st' h => by
    cases ds with
    | nil => cases h
    | cons d ds =>
      obtain ⟨st1, h1, h2⟩ := Option.bind_eq_some_iff.mp h
      obtain ⟨a1, b1⟩ := g.ok d st st1 h1
      obtain ⟨a2, b2, c2⟩ := r.ok ds st1 st' h2
      refine ⟨egs_cons a1 a2, ⟨b2.1.trans b1.1, fun j hj => ?_⟩, by rw [List.length_cons, c2]⟩
      rw [b2.2 j (fun z => hj (List.mem_append_right _ z)), b1.2 j (fun z => hj (List.mem_append_left _ z))]
def XG.tup (gs : XGs K) : XG K where
  tg := gTup K gs.n gs.tg
  T := gs.T
  ev := fun d st => match d with
    | .tuple ds => gs.ev ds st
    | _ => none
  ok := fun d st st' h => by
    cases d with
    | tuple ds =>
      obtain ⟨a, b, c⟩ := gs.ok ds st st' h
      exact ⟨eg_tup a c, b⟩
    | _ => cases h
def XG.lst (gs : XGs K) : XG K where
  tg := gLst K gs.n gs.tg
  T := gs.T
  ev := fun d st => match d with
    | .list ds => gs.ev ds st
    | _ => none
  ok := fun d st st' h => by
    cases d with
    | list ds =>
      obtain ⟨a, b, c⟩ := gs.ok ds st st' h
      exact ⟨eg_lst a c, b⟩
    | _ => cases h
/-! comprehensions -/
def Sv.isX : Sv → Bool
  | .x => true
  | _ => false
def allXb (st : List Sv) (vs : List Nat) : Bool := vs.all fun v => match st[v]? with
  | some s => s.isX
  | none => false
theorem allXb_ok {st : List Sv} : ∀ {vs : List Nat}, allXb st vs = true → AllX (sls K st) vs
  | [], _ => trivial
  | v :: vs, h => by
    unfold allXb at h
    rw [List.all_cons, Bool.and_eq_true] at h
    refine ⟨?_, allXb_ok h.2⟩
    have h1 := h.1
    cases hs : st[v]? with
    | none => rw [hs] at h1; cases h1
    | some s =>
      rw [hs] at h1
      cases s with
      | x => exact sls_get (K := K) hs
      | _ => cases h1
theorem allXb_at {st : List Sv} {vs : List Nat} (h : allXb st vs = true) {v : Nat} (hv : v ∈ vs) : st[v]? = some .x := by
  have := List.all_eq_true.mp h v hv
  cases hs : st[v]? with
  | none => rw [hs] at this; cases this
  | some s =>
    rw [hs] at this
    cases s with
    | x => rfl
    | _ => cases this
theorem wk_of : ∀ {ρ1 ρ : List Sl}, ρ1.length = ρ.length → (∀ j : Nat, ρ[j]? = some Sl.x ∨ ρ1[j]? = ρ[j]?) → Wk ρ1 ρ
  | [], [], _, _ => .nil
  | [], _ :: _, h, _ => by cases h
  | _ :: _, [], h, _ => by cases h
  | a :: ρ1, b :: ρ, h, k => by
    have r : Wk ρ1 ρ := wk_of (by simpa using h) fun j => by simpa using k (j + 1)
    have h0 := k 0
    simp only [List.getElem?_cons_zero] at h0
    rcases h0 with h0 | h0
    · cases h0; exact .x r
    · cases h0; exact .k r
theorem wk_agree {T vs : List Nat} {st st1 : List Sv} (a : agree T st st1) (hx : allXb st vs = true) (ht : ∀ i ∈ T, i ∈ vs) : Wk (sls K st1) (sls K st) :=
  wk_of (by rw [sls_len, sls_len, a.1]) fun j => by
    by_cases hj : j ∈ T
    · exact .inl (sls_get (K := K) (allXb_at hx (ht j hj)))
    · right
      unfold sls
      rw [List.getElem?_map, List.getElem?_map, a.2 j hj]
section
variable (g : XG K) (c : XT K) (e : XE K) (st : List Sv)
def lcOne (d : PyData) : Option (Option PyData) := (g.ev d st).bind fun st1 => match okV (c.ev st1) with
  | some false => some none
  | some true => match okV (e.ev st1) with
    | some (.d x) => some (some x)
    | _ => none
  | none => none
def lcL : List PyData → Option (List PyData)
  | [] => some []
  | d :: ds => (lcOne g c e st d).bind fun o => (lcL ds).map fun r => match o with
    | some x => x :: r
    | none => r
def lcP (d : PyData) : Bool := match lcOne g c e st d with
  | some (some _) => true
  | _ => false
def lcF (d : PyData) : PyData := match lcOne g c e st d with
  | some (some x) => x
  | _ => .none
theorem lcL_some : ∀ {ds r : List PyData}, lcL g c e st ds = some r → r = (ds.filter (lcP g c e st)).map (lcF g c e st) ∧ ∀ d ∈ ds, lcOne g c e st d ≠ none
  | [], r, h => by cases h; exact ⟨rfl, fun _ z => nomatch z⟩
  | d :: ds, r, h => by
    obtain ⟨o, h1, h2⟩ := Option.bind_eq_some_iff.mp (show (lcOne g c e st d).bind _ = some r from h)
    obtain ⟨r', h3, h4⟩ := Option.map_eq_some_iff.mp h2
    obtain ⟨i1, i2⟩ := lcL_some h3
    refine ⟨?_, fun d' hd => ?_⟩
    · cases o with
      | none =>
        have : lcP g c e st d = false := by unfold lcP; rw [h1]
        rw [List.filter_cons, this]
        simp only at h4
        rw [← h4, i1]
        rfl
      | some x =>
        have : lcP g c e st d = true := by unfold lcP; rw [h1]
        have hf : lcF g c e st d = x := by unfold lcF; rw [h1]
        rw [List.filter_cons, this]
        simp only at h4
        rw [← h4, i1, if_pos rfl, List.map_cons, hf]
    · rcases List.mem_cons.mp hd with z | z
      · rw [z, h1]; exact fun y => nomatch y
      · exact i2 d' z
end
def XN.lc (it : XI K) (g : XG K) (c : XT K) (e : XE K) (vs : List Nat) : XN K where
  te := fun md => tLc (it.ti md) g.tg (c.tt .qu) (e.te .qu) vs
  ev := fun st => (it.ev st).bind fun ds => if ds.length ≤ 100000 ∧ allXb st vs = true ∧ (g.T.all fun i => decide (i ∈ vs)) = true then Rs.of (lcL g c e st ds) else .no
  ok := fun md st => (it.ok md st).bind (fun C n W h => fun Q s q => h _ s q) fun ds h => by
    split
    · rename_i hc
      cases hl : lcL g c e st ds with
      | none => trivial
      | some r =>
        obtain ⟨h1, h2⟩ := lcL_some g c e st hl
        show EvN _ _ r
        rw [h1]
        have hts : ∀ i ∈ g.T, i ∈ vs := fun i hi => of_decide_eq_true (List.all_eq_true.mp hc.2.2 i hi)
        refine en_lc (en := id) (by rw [List.map_id]; exact h) (allXb_ok hc.2.1) hc.1 fun d hd => ?_
        have hne := h2 d hd
        cases ho : lcOne g c e st d with
        | none => exact absurd ho hne
        | some o =>
          obtain ⟨st1, g1, g2⟩ := Option.bind_eq_some_iff.mp (show (g.ev d st).bind _ = some o from ho)
          obtain ⟨eg, ag⟩ := g.ok d st st1 g1
          refine ⟨g.T, sls K st1, eg, hts, wk_agree ag hc.2.1 hts, ?_, ?_⟩
          · have hct := c.ok .qu st1
            cases hcv : okV (c.ev st1) with
            | none => rw [hcv] at g2; cases g2
            | some b =>
              rw [okV_some hcv] at hct
              refine EvT.is hct ?_
              rw [hcv] at g2
              unfold lcP
              rw [ho]
              cases b with
              | false => cases g2; rfl
              | true =>
                simp only at g2
                split at g2
                · cases g2; rfl
                · cases g2
          · intro hp
            cases hcv : okV (c.ev st1) with
            | none => rw [hcv] at g2; cases g2
            | some b =>
              rw [hcv] at g2
              unfold lcF
              unfold lcP at hp
              rw [ho] at hp ⊢
              cases b with
              | false => cases g2; cases hp
              | true =>
                simp only at g2
                have het := e.ok .qu st1
                split at g2
                · rename_i x hx
                  cases g2
                  rw [okV_some hx] at het
                  exact het
                · cases g2
    · trivial
end
end R

set_option Elab.async false
set_option linter.all false
set_option maxRecDepth 100000
set_option maxHeartbeats 2000000
namespace R
open PySem PySem.Spec PyProof.Rows L2 Z
inductive Oc where
  | nx (st : List Sv) | rt (a : Vl) | ro (ds : List PyData) | bk (st : List Sv) | ct (st : List Sv) | xc (st : List Sv) (C : Addr) (n : Int) | no
def OcOk (K : PySem.W.Frag) (md : Md) (W : WX) (t : TS) (ρ : List Sl) : Oc → Prop
  | .nx st => Ex W t ρ (.nx (sls K st))
  | .rt a => Ex W t ρ (.rt (vr K a))
  | .ro ds => Ex W t ρ (.ro (oL ds))
  | .bk st => Ex W t ρ (.bk (sls K st))
  | .ct st => Ex W t ρ (.ct (sls K st))
  | .xc st C n => md.loud = true → Ex W t ρ (.xc (sls K st) C n)
  | .no => True
structure XS (K : PySem.W.Frag) where
  ts : Md → TS
  ev : List Sv → Oc
  ok : ∀ md W st, md.fits W → OcOk K md W (ts md) (sls K st) (ev st)
section
variable {K : PySem.W.Frag}
def Rs.oc {α : Type} (st : List Sv) (k : α → Oc) : Rs α → Oc
  | .ok a => k a
  | .ex C n => .xc st C n
  | .no => .no
theorem oc_ok {α β : Type} {md : Md} {W : WX} {t : L2.St → Hp → β → Prop} {u : TS} {st : List Sv} {P : α → Prop} {r : Rs α} {k : α → Oc} (w : md.fits W) (h : Cm md t (sls K st) P r)
    (hx : ∀ C n, EvXg W t (sls K st) C n → Ex W u (sls K st) (.xc (sls K st) C n)) (hk : ∀ a, P a → OcOk K md W u (sls K st) (k a)) : OcOk K md W u (sls K st) (r.oc st k) := by
  cases r with
  | ok a => exact hk a h
  | ex C n => exact fun l => hx C n (h l W w)
  | no => trivial
def XS.nx : XS K where
  ts := fun _ => tNext
  ev := fun st => .nx st
  ok := fun md W st w => Ex.next
def XS.brk : XS K where
  ts := fun _ => tBreak
  ev := fun st => .bk st
  ok := fun md W st w => Ex.break_
def XS.cnt : XS K where
  ts := fun _ => tCont
  ev := fun st => .ct st
  ok := fun md W st w => Ex.cont
def XS.seq (a b : XS K) : XS K where
  ts := fun md => tSeq (a.ts md) (b.ts md)
  ev := fun st => match a.ev st with
    | .nx st' => b.ev st'
    | o => o
  ok := fun md W st w => by
    have ha := a.ok md W st w
    cases he : a.ev st with
    | nx st' =>
      rw [he] at ha
      have hb := b.ok md W st' w
      show OcOk K md W _ _ (b.ev st')
      cases hf : b.ev st' with
      | no => trivial
      | xc s C n => rw [hf] at hb; exact fun l => Ex.seq ha (hb l)
      | nx s => rw [hf] at hb; exact Ex.seq ha hb
      | rt s => rw [hf] at hb; exact Ex.seq ha hb
      | ro s => rw [hf] at hb; exact Ex.seq ha hb
      | bk s => rw [hf] at hb; exact Ex.seq ha hb
      | ct s => rw [hf] at hb; exact Ex.seq ha hb
    | no => trivial
    | xc s C n => rw [he] at ha; exact fun l => Ex.seqE (ha l) rfl
    | rt s => rw [he] at ha; exact Ex.seqE ha rfl
    | ro s => rw [he] at ha; exact Ex.seqE ha rfl
    | bk s => rw [he] at ha; exact Ex.seqE ha rfl
    | ct s => rw [he] at ha; exact Ex.seqE ha rfl
def XS.set (i : Nat) (e : XE K) : XS K where
  ts := fun md => tAsg (e.te md) (gName i)
  ev := fun st => (e.ev st).oc st fun a => .nx (st.set i (.v a))
  ok := fun md W st w => oc_ok w (e.ok md st) (fun C n h => Ex.asgX ⟨h⟩) fun a h => by
    show Ex _ _ _ (.nx (sls K (st.set i (.v a))))
    rw [sls_set]
    exact Ex.set (i := i) h
def XS.setN (i : Nat) (e : XN K) : XS K where
  ts := fun md => tAsg (e.te md) (gName i)
  ev := fun st => (e.ev st).oc st fun ds => if i < st.length then .nx (st.set i (.ol ds)) else .no
  ok := fun md W st w => oc_ok w (e.ok md st) (fun C n h => Ex.asgX ⟨h⟩) fun a h => by
    split
    · show Ex _ _ _ (.nx (sls K (st.set i (.ol a))))
      rw [sls_set]
      exact Ex.setN h (by rw [sls_len]; assumption)
    · trivial
def XS.asg (g : XG K) (e : XE K) : XS K where
  ts := fun md => tAsg (e.te md) g.tg
  ev := fun st => (e.ev st).oc st fun a => match a with
    | .d d => match g.ev d st with
      | some st' => .nx st'
      | none => .no
    | _ => .no
  ok := fun md W st w => oc_ok w (e.ok md st) (fun C n h => Ex.asgX ⟨h⟩) fun a h => by
    cases a with
    | s _ => trivial
    | i _ _ => trivial
    | d d =>
      simp only
      cases hg : g.ev d st with
      | none => trivial
      | some st' => exact Ex.asg (R := dat d) h (g.ok d st st' hg).1
def XS.aug (i : Nat) (o : O2 K) (ho : o.ka = false ∧ o.kb = false) (e : XE K) : XS K where
  ts := fun md => tAug i (e.te md) o.r
  ev := fun st => match st[i]? with
    | some (.v a) => match okV (e.ev st) with
      | some b => match o.f (.v a) (.v b) with
        | some c => .nx (st.set i (.v c))
        | none => .no
      | none => .no
    | _ => .no
  ok := fun md W st w => by
    cases hi : st[i]? with
    | none => trivial
    | some s =>
      cases s with
      | v a =>
        show OcOk K md W _ _ (match okV (e.ev st) with
          | some b => _
          | none => _)
        cases he : okV (e.ev st) with
        | none => trivial
        | some b =>
          show OcOk K md W _ _ (match o.f (.v a) (.v b) with
            | some c => _
            | none => _)
          cases hf : o.f (.v a) (.v b) with
          | none => trivial
          | some c =>
            have h := e.ok md st
            rw [okV_some he] at h
            show Ex _ _ _ (.nx (sls K (st.set i (.v c))))
            rw [sls_set]
            exact Ex.aug (sls_get (K := K) hi) h (o.ok _ _ _ hf)
      | _ => trivial
def XS.seti (i : Nat) (k e : XE K) : XS K where
  ts := fun md => tAsg (e.te md) (gSub (tVar i) (k.te md) rSetL)
  ev := fun st => match st[i]? with
    | some (.ol ds) => (e.ev st).oc st fun a => match a with
      | .d d => match okV (k.iv st) with
        | some n => match ixN ds.length n with
          | some j => .nx (st.set i (.ol (ds.set j d)))
          | none => .no
        | none => .no
      | _ => .no
    | _ => .no
  ok := fun md W st w => by
    split
    · rename_i ds hi
      refine oc_ok w (e.ok md st) (fun C n h => Ex.asgX ⟨h⟩) fun a h => ?_
      split
      · rename_i d
        split
        · rename_i n hk
          split
          · rename_i j hj
            have h2 := k.iv_ok md st
            rw [okV_some hk] at h2
            show Ex _ _ _ (.nx (sls K (st.set i (.ol (ds.set j d)))))
            rw [sls_set]
            exact Ex.setitem (sls_get (K := K) hi) h h2 hj
          · trivial
        · trivial
      · trivial
    · trivial
def XS.app (i : Nat) (e : XE K) : XS K where
  ts := fun md => tDrop (tBM K "list" rAppend (tVar i) (tCons (e.te md) tNil))
  ev := fun st => match st[i]? with
    | some (.ol ds) => (e.ev st).oc st fun a => match a with
      | .d d => if ds.length < 1000000 then .nx (st.set i (.ol (ds ++ [d]))) else .no
      | _ => .no
    | _ => .no
  ok := fun md W st w => by
    cases hi : st[i]? with
    | none => trivial
    | some s =>
      cases s with
      | ol ds =>
        refine oc_ok w (e.ok md st) (fun C n h => Ex.appendX (sls_get (K := K) hi) ⟨h⟩ rfl) fun a h => ?_
        cases a with
        | s _ => trivial
        | i _ _ => trivial
        | d d =>
          simp only
          split
          · show Ex _ _ _ (.nx (sls K (st.set i (.ol (ds ++ [d])))))
            rw [sls_set]
            exact Ex.append (sls_get (K := K) hi) h (by assumption) rfl
          · trivial
      | _ => trivial
theorem Ex.ifX {t : TT} {a b : TS} {ρ : List Sl} {W : WX} {C : Addr} {n : Int} (h : EvXg W t ρ C n) : Ex W (tIfS t a b) ρ (.xc ρ C n) := ⟨fun D s q => h _ s fun G' H' d e s' hd => q G' _ H' d e s' hd⟩
def XS.ite (t : XT K) (a b : XS K) : XS K where
  ts := fun md => tIfS (t.tt md) (a.ts md) (b.ts md)
  ev := fun st => (t.ev st).oc st fun x => match x with
    | true => a.ev st
    | false => b.ev st
  ok := fun md W st w => oc_ok w (t.ok md st) (fun C n h => Ex.ifX h) fun x h => by
    cases x with
    | true =>
      have ha := a.ok md W st w
      show OcOk K md W _ _ (a.ev st)
      cases he : a.ev st with
      | no => trivial
      | xc s C n => rw [he] at ha; exact fun l => Ex.ife h (fun _ => ha l) (fun z => nomatch z)
      | nx s => rw [he] at ha; exact Ex.ife h (fun _ => ha) (fun z => nomatch z)
      | rt s => rw [he] at ha; exact Ex.ife h (fun _ => ha) (fun z => nomatch z)
      | ro s => rw [he] at ha; exact Ex.ife h (fun _ => ha) (fun z => nomatch z)
      | bk s => rw [he] at ha; exact Ex.ife h (fun _ => ha) (fun z => nomatch z)
      | ct s => rw [he] at ha; exact Ex.ife h (fun _ => ha) (fun z => nomatch z)
    | false =>
      have ha := b.ok md W st w
      show OcOk K md W _ _ (b.ev st)
      cases he : b.ev st with
      | no => trivial
      | xc s C n => rw [he] at ha; exact fun l => Ex.ife h (fun z => nomatch z) (fun _ => ha l)
      | nx s => rw [he] at ha; exact Ex.ife h (fun z => nomatch z) (fun _ => ha)
      | rt s => rw [he] at ha; exact Ex.ife h (fun z => nomatch z) (fun _ => ha)
      | ro s => rw [he] at ha; exact Ex.ife h (fun z => nomatch z) (fun _ => ha)
      | bk s => rw [he] at ha; exact Ex.ife h (fun z => nomatch z) (fun _ => ha)
      | ct s => rw [he] at ha; exact Ex.ife h (fun z => nomatch z) (fun _ => ha)
def XS.ret (e : XE K) : XS K where
  ts := fun md => tRet (e.te md)
  ev := fun st => (e.ev st).oc st .rt
  ok := fun md W st w => oc_ok w (e.ok md st) (fun C n h => Ex.retX ⟨h⟩) fun a h => Ex.ret h
def XS.retN : XS K where
  ts := fun _ => tRetN
  ev := fun _ => .rt (.d .none)
  ok := fun md W st w => Ex.retN
def XS.retO (e : XN K) : XS K where
  ts := fun md => tRet (e.te md)
  ev := fun st => (e.ev st).oc st .ro
  ok := fun md W st w => oc_ok w (e.ok md st) (fun C n h => Ex.retX ⟨h⟩) fun a h => Ex.retO h
def XS.retV (i : Nat) : XS K where
  ts := fun _ => tRet (tVar i)
  ev := fun st => match st[i]? with
    | some (.ol ds) => .ro ds
    | _ => .no
  ok := fun md W st w => by
    cases hi : st[i]? with
    | none => trivial
    | some s =>
      cases s with
      | ol ds => exact Ex.retOv (sls_get (K := K) hi)
      | _ => trivial
def XS.drop (e : XE K) : XS K where
  ts := fun md => tDrop (e.te md)
  ev := fun st => (e.ev st).oc st fun _ => .nx st
  ok := fun md W st w => oc_ok w (e.ok md st) (fun C n h => Ex.dropX ⟨h⟩) fun a h => Ex.drop h
/-- the list at slot i stays as it is from here on -/
def frz (i : Nat) (st : List Sv) : List Sv := match st[i]? with
  | some (.ol ds) => st.set i (.v (.d (.list ds)))
  | _ => st
theorem frz_ok {t : TS} {W : WX} {o : Out} {i : Nat} {st : List Sv} (h : Ex W t (sls K (frz i st)) o) : Ex W t (sls K st) o := by
  unfold frz at h
  cases hi : st[i]? with
  | none => rw [hi] at h; exact h
  | some s =>
    rw [hi] at h
    cases s with
    | ol ds =>
      simp only at h
      rw [sls_set] at h
      exact Ex.freeze i (sls_get (K := K) hi) h
    | _ => exact h
def XS.frz (i : Nat) (a : XS K) : XS K where
  ts := a.ts
  ev := fun st => a.ev (R.frz i st)
  ok := fun md W st w => by
    have ha := a.ok md W (R.frz i st) w
    show OcOk K md W _ _ (a.ev (R.frz i st))
    cases he : a.ev (R.frz i st) with
    | no => trivial
    | xc s C n => rw [he] at ha; exact fun l => frz_ok (ha l)
    | nx s => rw [he] at ha; exact frz_ok ha
    | rt s => rw [he] at ha; exact frz_ok ha
    | ro s => rw [he] at ha; exact frz_ok ha
    | bk s => rw [he] at ha; exact frz_ok ha
    | ct s => rw [he] at ha; exact frz_ok ha
/-! loops -/
def lp (g : XG K) (b : XS K) : List PyData → List Sv → Oc
  | [], st => .nx st
  | d :: ds, st => match g.ev d st with
    | none => .no
    | some st1 => match b.ev st1 with
      | .nx st2 => lp g b ds st2
      | .ct st2 => lp g b ds st2
      | .bk st2 => .nx st2
      | o => o
def lpF (K : PySem.W.Frag) (g : XG K) (b : XS K) (st : List Sv) (d : PyData) : Sum (List Sv) Out := match g.ev d st with
  | none => .inl st
  | some st1 => match b.ev st1 with
    | .nx st2 => .inl st2
    | .ct st2 => .inl st2
    | .bk st2 => .inr (.bk (sls K st2))
    | .rt a => .inr (.rt (vr K a))
    | .ro ds => .inr (.ro (oL ds))
    | .xc s C n => .inr (.xc (sls K s) C n)
    | .no => .inl st
def good (g : XG K) (b : XS K) (o : Oc) (st : List Sv) (d : PyData) : Prop := ∃ st1, g.ev d st = some st1 ∧ b.ev st1 ≠ .no ∧ ∀ s C n, b.ev st1 = .xc s C n → o = .xc s C n
def lpO (K : PySem.W.Frag) : Oc → Out
  | .nx st => .nx (sls K st)
  | .rt a => .rt (vr K a)
  | .ro ds => .ro (oL ds)
  | .bk st => .bk (sls K st)
  | .ct st => .ct (sls K st)
  | .xc st C n => .xc (sls K st) C n
  | .no => .nx []
theorem lp_run (g : XG K) (b : XS K) : ∀ (ds : List PyData) (st : List Sv), lp g b ds st ≠ .no →
    loopOut (sls K) (runF (lpF K g b) st ds) = lpO K (lp g b ds st) ∧ ∀ pre d post s, ds = pre ++ d :: post → runF (lpF K g b) st pre = .inl s → good g b (lp g b ds st) s d
  | [], st, h => ⟨rfl, fun pre d post s e => by simp at e⟩
  | d :: ds, st, h => by
    unfold lp at h ⊢
    cases hg : g.ev d st with
    | none => rw [hg] at h; exact absurd rfl h
    | some st1 =>
      rw [hg] at h
      simp only at h ⊢
      have key : ∀ st2, lpF K g b st d = .inl st2 → lp g b ds st2 ≠ .no → b.ev st1 ≠ .no → (∀ s C n, b.ev st1 ≠ .xc s C n) → loopOut (sls K) (runF (lpF K g b) st (d :: ds)) = lpO K (lp g b ds st2) ∧ ∀ pre d' post s, d :: ds = pre ++ d' :: post → runF (lpF K g b) st pre = .inl s → good g b (lp g b ds st2) s d' := by
        intro st2 e1 hn hb hx
        obtain ⟨i1, i2⟩ := lp_run g b ds st2 hn
        refine ⟨?_, fun pre d' post s e r => ?_⟩
        · have : runF (lpF K g b) st (d :: ds) = runF (lpF K g b) st2 ds := by
            conv => lhs; unfold runF
            rw [e1]
          rw [this, i1]
        · cases pre with
          | nil =>
            cases r
            cases e
            exact ⟨st1, hg, hb, fun s C n z => absurd z (hx s C n)⟩
          | cons p pre =>
            cases e
            have : runF (lpF K g b) st (d :: pre) = runF (lpF K g b) st2 pre := by
              conv => lhs; unfold runF
              rw [e1]
            rw [this] at r
            exact i2 pre d' post s rfl r
      have stop : ∀ o O, lpF K g b st d = .inr o → b.ev st1 ≠ .no → (∀ s C n, b.ev st1 = .xc s C n → O = .xc s C n) → loopOut (sls K) (runF (lpF K g b) st (d :: ds)) = unbk o ∧ ∀ pre d' post s, d :: ds = pre ++ d' :: post → runF (lpF K g b) st pre = .inl s → good g b O s d' := by
        intro o O e1 hb hx
        refine ⟨?_, fun pre d' post s e r => ?_⟩
        · conv => lhs; unfold runF
          rw [e1]
          rfl
        · cases pre with
          | nil =>
            cases r
            cases e
            exact ⟨st1, hg, hb, hx⟩
          | cons p pre =>
            cases e
            have : runF (lpF K g b) st (d :: pre) = .inr o := by
              conv => lhs; unfold runF
              rw [e1]
            rw [this] at r
            cases r
      have hf : ∀ o, b.ev st1 = o → lpF K g b st d = (match o with
          | .nx st2 => .inl st2
          | .ct st2 => .inl st2
          | .bk st2 => .inr (.bk (sls K st2))
          | .rt a => .inr (.rt (vr K a))
          | .ro ds => .inr (.ro (oL ds))
          | .xc s C n => .inr (.xc (sls K s) C n)
          | .no => .inl st) := fun o ho => by
        unfold lpF
        rw [hg]
        simp only [ho]
      cases hb : b.ev st1 with
      | no => rw [hb] at h; exact absurd rfl h
      | nx st2 => rw [hb] at h; exact key st2 (hf _ hb) h (by rw [hb]; exact fun z => nomatch z) (by rw [hb]; exact fun _ _ _ z => nomatch z)
      | ct st2 => rw [hb] at h; exact key st2 (hf _ hb) h (by rw [hb]; exact fun z => nomatch z) (by rw [hb]; exact fun _ _ _ z => nomatch z)
      | bk st2 => exact stop _ _ (hf _ hb) (by rw [hb]; exact fun z => nomatch z) (by rw [hb]; exact fun _ _ _ z => nomatch z)
      | rt a => exact stop _ _ (hf _ hb) (by rw [hb]; exact fun z => nomatch z) (by rw [hb]; exact fun _ _ _ z => nomatch z)
      | ro a => exact stop _ _ (hf _ hb) (by rw [hb]; exact fun z => nomatch z) (by rw [hb]; exact fun _ _ _ z => nomatch z)
      | xc s C n => exact stop _ _ (hf _ hb) (by rw [hb]; exact fun z => nomatch z) (by rw [hb]; exact fun _ _ _ z => z)
def XS.for_ (it : XI K) (g : XG K) (b : XS K) : XS K where
  ts := fun md => tFor (it.ti md) g.tg (b.ts md)
  ev := fun st => (it.ev st).oc st fun ds => lp g b ds st
  ok := fun md W st w => oc_ok w (it.ok md st) (fun C n h => ⟨fun D s q => h _ s fun G' H' d e s' hd => q G' _ H' d e s' hd⟩) fun ds hi => by
    by_cases hl : md.loud = true ∨ ∀ s C n, lp g b ds st ≠ .xc s C n
    · by_cases hno : lp g b ds st = .no
      · rw [hno]; trivial
      · obtain ⟨h1, h2⟩ := lp_run g b ds st hno
        have main : Ex W (tFor (it.ti md) g.tg (b.ts md)) (sls K st) (lpO K (lp g b ds st)) := by
          rw [← h1]
          refine Ex.forF (K := K) (en := id) (T := []) (sls K) (lpF K g b) (by rw [List.map_id]; exact hi) (Wk.refl _) fun pre x post s e r => ?_
          obtain ⟨st1, g1, g2, g3⟩ := h2 pre x post s e r
          obtain ⟨eg, _⟩ := g.ok x s st1 g1
          have hb := b.ok md W st1 w
          have hf : lpF K g b s x = (match b.ev st1 with
              | .nx st2 => .inl st2
              | .ct st2 => .inl st2
              | .bk st2 => .inr (.bk (sls K st2))
              | .rt a => .inr (.rt (vr K a))
              | .ro ds => .inr (.ro (oL ds))
              | .xc s C n => .inr (.xc (sls K s) C n)
              | .no => .inl s) := by
            unfold lpF
            rw [g1]
          rw [hf]
          cases he : b.ev st1 with
          | no => exact absurd he g2
          | nx st2 => rw [he] at hb; exact ⟨(fun o z => nomatch z), g.T, _, eg, Ex.go hb⟩
          | ct st2 => rw [he] at hb; exact ⟨(fun o z => nomatch z), g.T, _, eg, Ex.goc hb⟩
          | bk st2 => rw [he] at hb; exact ⟨fun o z => by cases z; rfl, g.T, _, eg, hb⟩
          | rt a => rw [he] at hb; exact ⟨fun o z => by cases z; rfl, g.T, _, eg, hb⟩
          | ro a => rw [he] at hb; exact ⟨fun o z => by cases z; rfl, g.T, _, eg, hb⟩
          | xc s2 C n =>
            rw [he] at hb
            exact ⟨fun o z => by cases z; rfl, g.T, _, eg, hb (hl.resolve_right fun z => z _ _ _ (g3 _ _ _ he))⟩
        cases he : lp g b ds st with
        | no => trivial
        | xc s C n => rw [he] at main; exact fun _ => main
        | nx s => rw [he] at main; exact main
        | rt s => rw [he] at main; exact main
        | ro s => rw [he] at main; exact main
        | bk s => rw [he] at main; exact main
        | ct s => rw [he] at main; exact main
    · cases he : lp g b ds st with
      | xc s C n => exact fun l => absurd (.inl l) hl
      | no => trivial
      | nx s => exact absurd (.inr (by rw [he]; exact fun _ _ _ z => nomatch z)) hl
      | rt s => exact absurd (.inr (by rw [he]; exact fun _ _ _ z => nomatch z)) hl
      | ro s => exact absurd (.inr (by rw [he]; exact fun _ _ _ z => nomatch z)) hl
      | bk s => exact absurd (.inr (by rw [he]; exact fun _ _ _ z => nomatch z)) hl
      | ct s => exact absurd (.inr (by rw [he]; exact fun _ _ _ z => nomatch z)) hl
end
end R

set_option Elab.async false
set_option linter.all false
set_option maxRecDepth 100000
set_option maxHeartbeats 2000000
namespace R
open PySem PySem.Spec PyProof.Rows L2 Z
section
variable {K : PySem.W.Frag}
def Md.W : Md → WX
  | .out E => WofE E
  | .tr W => W
  | .qu => fun _ _ _ _ => False
theorem Md.fits_W {md : Md} {W : WX} (l : md.loud = true) (w : md.fits W) : md.W = W := by
  cases md with
  | out E => exact w.symm
  | tr W' => exact w.symm
  | qu => cases l
def raiseT (K : PySem.W.Frag) (md : Md) (C : Addr) (ta : TA) : TS := match md with
  | .out E => fun _ σ H => tMkO C (spAt K) [] ta σ H fun cls d H' => E cls d H'
  | .tr W => fun _ σ H => tMkO C (spAt K) [] ta σ H fun cls d H' => W cls d σ H'
  | .qu => fun _ σ H => tMkO C (spAt K) [] ta σ H fun cls d H' => False
def XS.raise (C : Addr) (hC : OexC K C) (hn : PySem.W.findIn K (.ref C) "at" = some none) (as : XA K) : XS K where
  ts := fun md => raiseT K md C (as.ta md)
  ev := fun st => (as.ev st).oc st fun xs => match avI1 xs with
    | some n => .xc st C n
    | none => .no
  ok := fun md W st w => by
    have h := as.ok md st
    cases he : as.ev st with
    | no => trivial
    | ex C' n =>
      rw [he] at h
      intro l
      have h : EvXg W (as.ta md) (sls K st) C' n := h l W w
      cases md with
      | qu => cases l
      | out E => exact ⟨fun D s q => h _ s fun G' H' d e s' hd => q G' _ H' d e s' hd⟩
      | tr W' => exact ⟨fun D s q => h _ s fun G' H' d e s' hd => q G' _ H' d e s' hd⟩
    | ok xs =>
      rw [he] at h
      show OcOk K md W _ _ (match avI1 xs with
        | some n => _
        | none => _)
      cases hx : avI1 xs with
      | none => trivial
      | some n =>
        rw [avI1_some hx] at h
        intro l
        cases md with
        | qu => cases l
        | out E => subst w; exact Ex.raise_ h hC hn
        | tr W' => subst w; exact Ex.raise_ h hC hn
structure XH (K : PySem.W.Frag) (i : Nat) where
  ts : Addr → Value → Option Addr → TS
  ev : Addr → Int → List Sv → Oc
  ok : ∀ W a d C n st, OcOk K .qu W (ts a (.ref C) (some d)) ((sls K st).set i (.p (errR a d n))) (ev C n st)
def mute : Oc → Oc
  | .xc _ _ _ => .no
  | o => o
def XH.of (i : Nat) (suite : Addr → Value → Option Addr → XS K) (ev : Addr → Int → List Sv → Oc) (h : ∀ (a d C : Addr) (n : Int) (st : List Sv), mute ((suite a (.ref C) (some d)).ev (st.set i (.er a d n))) = ev C n st) : XH K i where
  ts := fun a cls d => (suite a cls d).ts .qu
  ev := ev
  ok := fun W a d C n st => by
    have := (suite a (.ref C) (some d)).ok .qu W (st.set i (.er a d n)) trivial
    rw [sls_set] at this
    rw [← h a d C n st]
    cases he : (suite a (.ref C) (some d)).ev (st.set i (.er a d n)) with
    | xc _ _ _ => trivial
    | no => trivial
    | nx s => rw [he] at this; exact this
    | rt s => rw [he] at this; exact this
    | ro s => rw [he] at this; exact this
    | bk s => rw [he] at this; exact this
    | ct s => rw [he] at this; exact this
def clr (i : Nat) : Oc → Oc
  | .nx st => .nx (st.set i .x)
  | .bk st => .bk (st.set i .x)
  | .ct st => .ct (st.set i .x)
  | .xc _ _ _ => .no
  | o => o
def XS.try_ (i : Nat) (cW : Addr) (b : XS K) (s : XH K i) : XS K where
  ts := fun md D σ H => b.ts (.tr (wAs K (.ref cW) i s.ts md.W D)) D σ H
  ev := fun st => match b.ev st with
    | .xc st1 C n => if PySem.W.exmOne K (.ref C) (.ref cW) = some true then clr i (s.ev C n st1) else .no
    | o => o
  ok := fun md W st w => by
    have hb := fun W' => b.ok (.tr W') W' st rfl
    have tok : ∀ {o : Out}, (∀ W', Ex W' (b.ts (.tr W')) (sls K st) o) → o.quiet = true → Ex W (fun D σ H => b.ts (.tr (wAs K (.ref cW) i s.ts md.W D)) D σ H) (sls K st) o := fun {o} h hq => ⟨fun D s' q => (h _).run D s' (q.anyW hq)⟩
    cases he : b.ev st with
    | no => trivial
    | nx s' => rw [he] at hb; exact tok hb rfl
    | rt s' => rw [he] at hb; exact tok hb rfl
    | ro s' => rw [he] at hb; exact tok hb rfl
    | bk s' => rw [he] at hb; exact tok hb rfl
    | ct s' => rw [he] at hb; exact tok hb rfl
    | xc st1 C n =>
      rw [he] at hb
      show OcOk K md W _ _ (if PySem.W.exmOne K (.ref C) (.ref cW) = some true then clr i (s.ev C n st1) else .no)
      split
      · rename_i hm
        have hs := fun a d => s.ok W a d C n st1
        have tx : ∀ {o : Out}, (∀ a d, Ex W (s.ts a (.ref C) (some d)) ((sls K st1).set i (.p (errR a d n))) o) → Ex W (fun D σ H => b.ts (.tr (wAs K (.ref cW) i s.ts md.W D)) D σ H) (sls K st) (noSlot i o) := fun {o} h =>
          ⟨fun D s' q => (hb _ rfl).run D s' fun G' σ' H' d e s'' hd => ⟨true, hm, fun _ a ha => by
            have g := s''.grow (o := atF n) hd
            obtain ⟨G2, e2, s2⟩ := g.2.set_p (R := errR a d n) ⟨rfl, upd_same⟩ i
            exact (h a d).run _ s2 (q.slot.mono ((e.trans g.1).trans e2)), fun z => nomatch z⟩⟩
        cases hv : s.ev C n st1 with
        | no => trivial
        | xc _ _ _ => trivial
        | nx s' => rw [hv] at hs; show Ex _ _ _ (.nx (sls K (s'.set i .x))); rw [sls_set]; exact tx hs
        | bk s' => rw [hv] at hs; show Ex _ _ _ (.bk (sls K (s'.set i .x))); rw [sls_set]; exact tx hs
        | ct s' => rw [hv] at hs; show Ex _ _ _ (.ct (sls K (s'.set i .x))); rw [sls_set]; exact tx hs
        | rt s' => rw [hv] at hs; exact tx hs
        | ro s' => rw [hv] at hs; exact tx hs
      · trivial
def XE.errAt (i : Nat) (a : Addr) (cls : Value) (d : Option Addr) (kn : List Addr) (hk : ∀ C ∈ kn, XfC K C ∧ PySem.W.findIn K (.ref C) "at" = some none) : XE K := .of (fun _ => tXg K a cls d "at" i)
  (fun st => match cls, d, st[i]? with
    | .ref C, some d', some (.er a' d'' n) => if (a' = a ∧ d'' = d') ∧ C ∈ kn then .ok (.d (.int n)) else .no
    | _, _, _ => .no)
  fun md st => by
    split
    · rename_i C d' a' d'' n hi
      split
      · rename_i hc
        obtain ⟨⟨rfl, rfl⟩, hC⟩ := hc
        exact ev_at (sls_get (K := K) hi) (hk _ hC).1 (hk _ hC).2
      · trivial
    · trivial
def XE.isX (i : Nat) (a : Addr) (cls : Value) (d : Option Addr) (D : Addr) (kn : List Addr) (hk : ∀ C ∈ kn, ExcC K C) : XE K := .of (fun _ => tCB (rIsX K a cls d) (tCons (tVar i) (tCons (tC (.ref D)) tNil)))
  (fun st => match cls, d, st[i]? with
    | .ref C, some d', some (.er a' d'' n) => if (a' = a ∧ d'' = d') ∧ C ∈ kn then Rs.of ((PySem.W.kitOne K (.ref C) (.ref D)).map fun b => .d (.bool b)) else .no
    | _, _, _ => .no)
  fun md st => by
    split
    · rename_i C d' a' d'' n hi
      split
      · rename_i hc
        obtain ⟨⟨rfl, rfl⟩, hC⟩ := hc
        cases hb : PySem.W.kitOne K (.ref C) (.ref D) with
        | none => trivial
        | some b => exact ev_isX (sls_get (K := K) hi) (hk _ hC) hb
      · trivial
    · trivial
/-! instances -/
theorem lookup_map {f : Str} : ∀ {fs : List (Str × PyData)}, (fs.map fun p => (p.1, dat p.2)).lookup f = (fs.lookup f).map dat
  | [] => rfl
  | (g, d) :: fs => by
    rw [List.map_cons, List.lookup_cons, List.lookup_cons]
    cases f == g with
    | true => rfl
    | false => exact lookup_map
def XE.fld (C : Addr) (c : Cls K C) (f : Str) (hn : NoAttr K C f) (e : XE K) : XE K := .of (fun md => tFld K (e.te md) f)
  (fun st => (e.ev st).bind fun x => match x with
    | .i C' fs => if C' = C then Rs.of ((fs.lookup f).map Vl.d) else .no
    | _ => .no)
  fun md st => (e.ok md st).bind (fun C n W h => fun Q s q => h _ s q) fun x hx => by
    split
    · rename_i C' fs
      split
      · rename_i hc
        subst hc
        cases hl : fs.lookup f with
        | none => trivial
        | some d => exact ev_fld hx (by rw [lookup_map, hl]; rfl) c hn
      · trivial
    · trivial
def methT (md : Md) (C : Addr) (m : Str) (sp : Sp) (te : TE) (t : TA) : TE := match md with
  | .out E => tMeth C m sp [] E te t
  | .tr W => tMethSx C m sp (WE W) te t
  | .qu => tMeth C m sp [] (fun _ _ _ => False) te t
theorem meth_x {md : Md} {C : Addr} {m : Str} {sp : Sp} {te : TE} {t : TA} {ρ : List Sl} {W : WX} {D : Addr} {n : Int} (h : EvXg W te ρ D n) : EvXg W (methT md C m sp te t) ρ D n := by
  cases md with
  | out E => exact fun Q s q => h _ s q
  | tr W => exact fun Q s q => h _ s q
  | qu => exact fun Q s q => h _ s q
theorem meth_in {md : Md} {C : Addr} {m : Str} {sp : Sp} {te : TE} {t : TA} {ρ : List Sl} {W : WX} {D : Addr} {n : Int} {fs : List (Str × Rp)} (h0 : Ev te ρ (pu (insR C fs))) (hm : fs.lookup m = none) (h : EvXg W t ρ D n) : EvXg W (methT md C m sp te t) ρ D n := by
  cases md with
  | out E =>
    intro G σ L0 H Q s q
    refine h0.atp s fun G0 H0 v e0 s0 r0 => ?_
    obtain ⟨a, dx, fv, rfl, hH, hfl⟩ := id r0
    exact ⟨a, dx, fv, rfl, s0.same _ _ hH, hfl.no hm, h _ s0 fun G1 H1 d e1 s1 hd => q G1 H1 d (e0.trans e1) s1 hd⟩
  | tr W' =>
    intro G σ L0 H Q s q
    refine h0.atp s fun G0 H0 v e0 s0 r0 => ?_
    obtain ⟨a, dx, fv, rfl, hH, hfl⟩ := id r0
    exact ⟨a, dx, fv, rfl, s0.same _ _ hH, hfl.no hm, h _ s0 fun G1 H1 d e1 s1 hd => q G1 H1 d (e0.trans e1) s1 hd⟩
  | qu =>
    intro G σ L0 H Q s q
    refine h0.atp s fun G0 H0 v e0 s0 r0 => ?_
    obtain ⟨a, dx, fv, rfl, hH, hfl⟩ := id r0
    exact ⟨a, dx, fv, rfl, s0.same _ _ hH, hfl.no hm, h _ s0 fun G1 H1 d e1 s1 hd => q G1 H1 d (e0.trans e1) s1 hd⟩
/-- a method, as a function whose first argument is the object -/
theorem meth_args (F : Fn) (C : Addr) (m : Str) (te : TE) (as : XA K) (md : Md) (ρ : List Sl) (fs : List (Str × PyData)) (xs : List Av) (hl : xs.length + 1 = F.m) (h0 : Ev te ρ (pu (vr K (.i C fs)))) (hm : fs.lookup m = none) (h : EvA (as.ta md) ρ (xs.map (bw K))) :
    Cm md (methT md C m (F.sp K) te (as.ta md)) ρ (fun a => match F.own with
    | true => ∃ ds, a = .d (.list ds) ∧ EvN (methT md C m (F.sp K) te (as.ta md)) ρ ds
    | false => Ev (methT md C m (F.sp K) te (as.ta md)) ρ (pu (vr K a))) (match F.f (.v (.i C fs) :: xs), F.own with
    | .ok a, true => (match asL a with
      | some ds => .ok a
      | none => .no)
    | r, _ => r) := by
  have hm' : (fs.map fun p => (p.1, dat p.2)).lookup m = none := by rw [lookup_map, hm]; rfl
  have pre : ∀ {r : Rs Vl} {Q : VK} {E : XK} {G1 G0 : Hp} {L : List Cell} {H1 : Hp} {v : V} {vs : List V}, F.f (.v (.i C fs) :: xs) = r → r ≠ .no → (vr K (.i C fs)).p G0 v → Same G0 G1 → Lay G1 L H1 → AllB G1 L vs (xs.map (bw K)) → ResP Q E G1 L (resOf K F.own r) → F.sp K (v :: vs) H1 Q E := by
    intro r Q E G1 G0 L H1 v vs hr hn rv e1 la al rp
    refine ⟨⟨.v (.i C fs) :: xs, by rw [List.length_cons, hl]⟩, G1, L, by show F.f (.v (.i C fs) :: xs) ≠ .no; rw [hr]; exact hn, la, .cons ((vr K (.i C fs)).up e1 rv) al, ?_⟩
    show ResP Q E G1 L (resOf K F.own (F.f (.v (.i C fs) :: xs)))
    rw [hr]
    exact rp
  cases hf : F.f (.v (.i C fs) :: xs) with
  | no => simp only; trivial
  | ex D n =>
    simp only
    intro l W w
    cases md with
    | qu => cases l
    | out E =>
      subst w
      intro G σ L0 H Q s q
      refine h0.atp s fun G0 H0 v e0 s0 r0 => ?_
      obtain ⟨a, dx, fv, rfl, hH, hfl⟩ := id r0
      refine ⟨a, dx, fv, rfl, s0.same _ _ hH, hfl.no hm', h.at s0 fun G1 H1 vs L e1 sl la r => ?_⟩
      rw [List.append_nil]
      exact pre hf (fun z => nomatch z) r0 e1 la r fun G2 H2 d e2 l2 hd => q G2 H2 d ((e0.trans e1).trans e2) ⟨L, sl.up e2, l2⟩ hd
    | tr W' =>
      subst w
      intro G σ L0 H Q s q
      refine h0.atp s fun G0 H0 v e0 s0 r0 => ?_
      obtain ⟨a, dx, fv, rfl, hH, hfl⟩ := id r0
      refine ⟨a, dx, fv, rfl, s0.same _ _ hH, hfl.no hm', h.at s0 fun G1 H1 vs L e1 sl la r => ?_⟩
      exact pre hf (fun z => nomatch z) r0 e1 la r fun G2 H2 d e2 l2 hd => q G2 H2 d ((e0.trans e1).trans e2) ⟨L, sl.up e2, l2⟩ hd
  | ok a =>
    cases ho : F.own with
    | false =>
      simp only
      have rp : ∀ {Q : VK} {E : XK} {G1 : Hp} {L : List Cell}, (∀ G' H' v, Same G1 G' → Lay G' L H' → (vr K a).p G' v → Q v H') → ResP Q E G1 L (resOf K F.own (.ok a)) := fun {Q E G1 L} q => by
        rw [ho]
        exact q
      refine Ev.pure fun {G σ L0 H} Q s q => ?_
      cases md with
      | out E =>
        refine h0.atp s fun G0 H0 v e0 s0 r0 => ?_
        obtain ⟨b, dx, fv, rfl, hH, hfl⟩ := id r0
        refine ⟨b, dx, fv, rfl, s0.same _ _ hH, hfl.no hm', h.at s0 fun G1 H1 vs L e1 sl la r => ?_⟩
        rw [List.append_nil]
        exact pre hf (fun z => nomatch z) r0 e1 la r (rp fun G2 H2 v e2 l2 rv => q G2 H2 v ((e0.trans e1).trans e2) ⟨L, sl.up e2, l2⟩ rv)
      | qu =>
        refine h0.atp s fun G0 H0 v e0 s0 r0 => ?_
        obtain ⟨b, dx, fv, rfl, hH, hfl⟩ := id r0
        refine ⟨b, dx, fv, rfl, s0.same _ _ hH, hfl.no hm', h.at s0 fun G1 H1 vs L e1 sl la r => ?_⟩
        rw [List.append_nil]
        exact pre hf (fun z => nomatch z) r0 e1 la r (rp fun G2 H2 v e2 l2 rv => q G2 H2 v ((e0.trans e1).trans e2) ⟨L, sl.up e2, l2⟩ rv)
      | tr W' =>
        refine h0.atp s fun G0 H0 v e0 s0 r0 => ?_
        obtain ⟨b, dx, fv, rfl, hH, hfl⟩ := id r0
        refine ⟨b, dx, fv, rfl, s0.same _ _ hH, hfl.no hm', h.at s0 fun G1 H1 vs L e1 sl la r => ?_⟩
        exact pre hf (fun z => nomatch z) r0 e1 la r (rp fun G2 H2 v e2 l2 rv => q G2 H2 v ((e0.trans e1).trans e2) ⟨L, sl.up e2, l2⟩ rv)
    | true =>
      simp only
      cases hl2 : asL a with
      | none => simp only; trivial
      | some ds =>
        simp only
        have hR : resOf K F.own (.ok a) = .own (oL ds) := by rw [ho]; unfold resOf; simp only [hl2]
        have rp : ∀ {Q : VK} {E : XK} {G1 : Hp} {L : List Cell}, (∀ G2 H2 b cs, Same G1 G2 → Lay G2 (cs ++ L) H2 → (oL ds).p G2 b cs → Q (.ref b) H2) → ResP Q E G1 L (resOf K F.own (.ok a)) := fun {Q E G1 L} q => by
          rw [hR]
          exact q
        refine ⟨ds, ?_, ⟨fun {G σ L0 H} Q s q => ?_⟩⟩
        · cases a with
          | s _ => cases hl2
          | i _ _ => cases hl2
          | d x => cases x with
            | list es => cases hl2; rfl
            | _ => cases hl2
        · have fin : ∀ {G0 H0 G1 H1 : Hp} {L : List Cell}, Same G G0 → Same G0 G1 → Slots G1 L0 σ ρ L → Lay G1 (L ++ L0) H1 → ∀ G2 H2 b cs, Same G1 G2 → Lay G2 (cs ++ (L ++ L0)) H2 → (oL ds).p G2 b cs → Q (.ref b) H2 := by
            intro G0 H0 G1 H1 L e0 e1 sl la G2 H2 b cs e2 l2 ro
            obtain ⟨ws, hcs, d⟩ := ro
            subst hcs
            obtain ⟨H3, hn3, rfl, l3⟩ := Lay.uncell l2
            exact q G2 H3 _ ws ((e0.trans e1).trans e2) ⟨L, sl.up e2, l3⟩ hn3 d
          cases md with
          | out E =>
            refine h0.atp s fun G0 H0 v e0 s0 r0 => ?_
            obtain ⟨b, dx, fv, rfl, hH, hfl⟩ := id r0
            refine ⟨b, dx, fv, rfl, s0.same _ _ hH, hfl.no hm', h.at s0 fun G1 H1 vs L e1 sl la r => ?_⟩
            rw [List.append_nil]
            exact pre hf (fun z => nomatch z) r0 e1 la r (rp (fin (H0 := H0) e0 e1 sl la))
          | qu =>
            refine h0.atp s fun G0 H0 v e0 s0 r0 => ?_
            obtain ⟨b, dx, fv, rfl, hH, hfl⟩ := id r0
            refine ⟨b, dx, fv, rfl, s0.same _ _ hH, hfl.no hm', h.at s0 fun G1 H1 vs L e1 sl la r => ?_⟩
            rw [List.append_nil]
            exact pre hf (fun z => nomatch z) r0 e1 la r (rp (fin (H0 := H0) e0 e1 sl la))
          | tr W' =>
            refine h0.atp s fun G0 H0 v e0 s0 r0 => ?_
            obtain ⟨b, dx, fv, rfl, hH, hfl⟩ := id r0
            refine ⟨b, dx, fv, rfl, s0.same _ _ hH, hfl.no hm', h.at s0 fun G1 H1 vs L e1 sl la r => ?_⟩
            exact pre hf (fun z => nomatch z) r0 e1 la r (rp (fin (H0 := H0) e0 e1 sl la))
def instOf (C : Addr) (m : Str) : Vl → Rs (List (Str × PyData))
  | .i C' fs => if C' = C ∧ (fs.lookup m).isNone = true then .ok fs else .no
  | _ => .no
theorem instOf_ok {C : Addr} {m : Str} {v : Vl} {fs : List (Str × PyData)} (h : instOf C m v = .ok fs) : v = .i C fs ∧ fs.lookup m = none := by
  unfold instOf at h
  split at h
  · split at h
    · rename_i hc
      cases h
      exact ⟨by rw [hc.1], Option.isNone_iff_eq_none.mp hc.2⟩
    · cases h
  · cases h
theorem instOf_ex {C D : Addr} {m : Str} {v : Vl} {n : Int} : instOf C m v ≠ .ex D n := by
  unfold instOf
  split
  · split
    · exact fun z => nomatch z
    · exact fun z => nomatch z
  · exact fun z => nomatch z
def XE.meth (C : Addr) (m : Str) (F : Fn) (ho : F.own = false) (e : XE K) (as : XA K) : XE K := .of (fun md => methT md C m (F.sp K) (e.te md) (as.ta md))
  (fun st => (e.ev st).bind fun v => (instOf C m v).bind fun fs => (as.ev st).bind fun xs => if xs.length + 1 = F.m then F.f (.v (.i C fs) :: xs) else .no)
  fun md st => (e.ok md st).bind (fun C n W h => meth_x h) fun v hv => by
    cases hi : instOf C m v with
    | no => trivial
    | ex D n => exact absurd hi instOf_ex
    | ok fs =>
      obtain ⟨rfl, hm⟩ := instOf_ok hi
      refine (as.ok md st).bind (fun D n W h => meth_in hv (by rw [lookup_map, hm]; rfl) h) fun xs hx => ?_
      by_cases hl : xs.length + 1 = F.m
      · rw [if_pos hl]
        have := meth_args F C m (e.te md) as md (sls K st) fs xs hl hv hm hx
        rw [ho] at this
        cases hf : F.f (.v (.i C fs) :: xs) with
        | no => trivial
        | ex C n => rw [hf] at this; exact this
        | ok a => rw [hf] at this; exact this
      · rw [if_neg hl]; trivial
def XN.meth (C : Addr) (m : Str) (F : Fn) (ho : F.own = true) (e : XE K) (as : XA K) : XN K where
  te := fun md => methT md C m (F.sp K) (e.te md) (as.ta md)
  ev := fun st => (e.ev st).bind fun v => (instOf C m v).bind fun fs => (as.ev st).bind fun xs => if xs.length + 1 = F.m then (F.f (.v (.i C fs) :: xs)).bind lOf else .no
  ok := fun md st => (e.ok md st).bind (fun C n W h => meth_x h) fun v hv => by
    cases hi : instOf C m v with
    | no => trivial
    | ex D n => exact absurd hi instOf_ex
    | ok fs =>
      obtain ⟨rfl, hm⟩ := instOf_ok hi
      refine (as.ok md st).bind (fun D n W h => meth_in hv (by rw [lookup_map, hm]; rfl) h) fun xs hx => ?_
      by_cases hl : xs.length + 1 = F.m
      · rw [if_pos hl]
        have := meth_args F C m (e.te md) as md (sls K st) fs xs hl hv hm hx
        rw [ho] at this
        cases hf : F.f (.v (.i C fs) :: xs) with
        | no => trivial
        | ex C n => rw [hf] at this; exact this
        | ok a =>
          rw [hf] at this
          show Cm _ _ _ _ (lOf a)
          cases a with
          | s _ => trivial
          | i _ _ => trivial
          | d x =>
            cases x with
            | list ds =>
              obtain ⟨ds', e, h'⟩ := this
              cases e
              exact h'
            | _ => trivial
      · rw [if_neg hl]; trivial
end
end R

set_option Elab.async false
set_option linter.all false
set_option maxRecDepth 100000
set_option maxHeartbeats 2000000
namespace R
open PySem PySem.Spec PyProof.Rows L2 Z
/-! making an object -/
structure FnI where
  m : Nat
  f : List Av → Rs (List (Str × PyData))
def datF (fs : List (Str × PyData)) : List (Str × Rp) := fs.map fun p => (p.1, dat p.2)
def iresOf : Rs (List (Str × PyData)) → IRes
  | .ok fs => .ok (datF fs)
  | .ex D n => .err D n
  | .no => .ok []
def FnI.sp (K : PySem.W.Frag) (C : Addr) (F : FnI) : Sp := SpI (α := {xs : List Av // xs.length = F.m}) C (fun x => F.f x.1 ≠ .no) (fun x => x.1.map (bw K)) (fun x => iresOf (F.f x.1))
def makeT (md : Md) (C : Addr) (sp : Sp) (t : TA) : TE := match md with
  | .out E => tMake C sp [] E t
  | .tr W => tMakeS C sp (WE W) t
  | .qu => tMake C sp [] (fun _ _ _ => False) t
section
variable {K : PySem.W.Frag}
def XE.make (C : Addr) (F : FnI) (as : XA K) : XE K := .of (fun md => makeT md C (F.sp K C) (as.ta md))
  (fun st => (as.ev st).bind fun xs => if xs.length = F.m then (F.f xs).bind fun fs => .ok (.i C fs) else .no)
  fun md st => (as.ok md st).bind (fun C n W h => by
    cases md with
    | out E => exact fun Q s q => h _ s q
    | tr W => exact fun Q s q => h _ s q
    | qu => exact fun Q s q => h _ s q) fun xs h => by
    by_cases hm : xs.length = F.m
    · rw [if_pos hm]
      cases hf : F.f xs with
      | no => trivial
      | ex D n =>
        intro l W w
        have hR : iresOf (F.f (⟨xs, hm⟩ : {xs : List Av // xs.length = F.m}).1) = .err D n := by show iresOf (F.f xs) = _; rw [hf]; rfl
        have hp : F.f (⟨xs, hm⟩ : {xs : List Av // xs.length = F.m}).1 ≠ .no := by show F.f xs ≠ _; rw [hf]; exact fun z => nomatch z
        cases md with
        | qu => cases l
        | out E =>
          subst w
          exact fun {G σ L0 H} Q s q => (ex_make (α := {xs : List Av // xs.length = F.m}) (pre := fun x => F.f x.1 ≠ .no) (A := fun x => x.1.map (bw K)) (F := fun x => iresOf (F.f x.1)) ⟨xs, hm⟩ h hp hR).run Q s q
        | tr W' =>
          subst w
          exact fun {G σ L0 H} Q s q => (ex_makeS (α := {xs : List Av // xs.length = F.m}) (pre := fun x => F.f x.1 ≠ .no) (A := fun x => x.1.map (bw K)) (F := fun x => iresOf (F.f x.1)) ⟨xs, hm⟩ h hp hR).run Q s q
      | ok fs =>
        have hR : iresOf (F.f (⟨xs, hm⟩ : {xs : List Av // xs.length = F.m}).1) = .ok (datF fs) := by show iresOf (F.f xs) = _; rw [hf]; rfl
        have hp : F.f (⟨xs, hm⟩ : {xs : List Av // xs.length = F.m}).1 ≠ .no := by show F.f xs ≠ _; rw [hf]; exact fun z => nomatch z
        cases md with
        | out E => exact ev_make (α := {xs : List Av // xs.length = F.m}) (pre := fun x => F.f x.1 ≠ .no) (A := fun x => x.1.map (bw K)) (F := fun x => iresOf (F.f x.1)) ⟨xs, hm⟩ h hp hR
        | tr W' => exact ev_makeS (α := {xs : List Av // xs.length = F.m}) (pre := fun x => F.f x.1 ≠ .no) (A := fun x => x.1.map (bw K)) (F := fun x => iresOf (F.f x.1)) ⟨xs, hm⟩ h hp hR
        | qu => exact ev_make (α := {xs : List Av // xs.length = F.m}) (pre := fun x => F.f x.1 ≠ .no) (A := fun x => x.1.map (bw K)) (F := fun x => iresOf (F.f x.1)) ⟨xs, hm⟩ h hp hR
    · rw [if_neg hm]; trivial
def XS.setfld (i : Nat) (C : Addr) (c : Cls K C) (f : Str) (hn : NoAttr K C f) (e : XE K) : XS K where
  ts := fun md => sFld K (tVar i) (e.te md) f
  ev := fun st => match st[i]? with
    | some (.oi C' a fs) => if C' = C ∧ (fs.lookup f).isNone = true ∧ fs.length < 1000 then (e.ev st).oc st fun v => match v with
      | .d d => .nx (st.set i (.oi C a (fs ++ [(f, d)])))
      | _ => .no else .no
    | _ => .no
  ok := fun md W st w => by
    split
    · rename_i C' a fs hi
      split
      · rename_i hc
        obtain ⟨rfl, h1, h2⟩ := hc
        refine oc_ok w (e.ok md st) (fun D n h => ⟨fun D s q => h _ s fun G' H' d e s' hd => q G' _ H' d e s' hd⟩) fun v hv => ?_
        split
        · rename_i d
          show Ex _ _ _ (.nx (sls K (st.set i (.oi C' a (fs ++ [(f, d)])))))
          rw [sls_set]
          have := Ex.setfld (W := W) (fs := datF fs) (sls_get (K := K) hi) hv (by unfold datF; rw [lookup_map, Option.isNone_iff_eq_none.mp h1]; rfl) (by unfold datF; rw [List.length_map]; exact h2) c hn
          have e2 : sl K (.oi C' a (fs ++ [(f, d)])) = .o (oI C' a (datF fs ++ [(f, dat d)])) := by
            show Sl.o (oI C' a ((fs ++ [(f, d)]).map _)) = _
            rw [List.map_append]
            rfl
          rw [e2]
          exact this
        · trivial
      · trivial
    · trivial
/-! a function's start -/
def avS : Av → Sv
  | .v a => .v a
  | .l ds => .bl ds
def start (xs : List Av) (k : Nat) : List Sv := xs.map avS ++ List.replicate k .x
theorem slots_b {G : Hp} {L0 : List Cell} {k : Nat} : ∀ {xs : List Av} {σ : L2.St} {L : List Cell}, Slots G L0 σ (st0 (xs.map (bw K)) k) L → Slots G L0 σ (sls K (start xs k)) L
  | [], σ, L, h => by
    have e : sls K (start [] k) = st0 (([] : List Av).map (bw K)) k := by
      unfold sls start st0
      simp [sl]
    rw [e]
    exact h
  | .v a :: xs, σ, L, h => by
    have h : Slots G L0 σ (Sl.b (pu (vr K a)) :: st0 (xs.map (bw K)) k) L := h
    show Slots G L0 σ (Sl.p (vr K a) :: sls K (start xs k)) L
    cases h with
    | b h1 h2 => exact .p h1 (slots_b h2)
  | .l ds :: xs, σ, L, h => by
    have h : Slots G L0 σ (Sl.b (bL ds) :: st0 (xs.map (bw K)) k) L := h
    show Slots G L0 σ (Sl.b (bL ds) :: sls K (start xs k)) L
    cases h with
    | b h1 h2 => exact .b h1 (slots_b h2)
theorem ex_start {t : TS} {W : WX} {o : Out} {xs : List Av} {k : Nat} (h : Ex W t (sls K (start xs k)) o) : Ex W t (st0 (xs.map (bw K)) k) o := ⟨fun D s q => by
  obtain ⟨L, sl, la⟩ := s
  exact h.run D ⟨L, slots_b sl, la⟩ q⟩
def Oc.res (own : Bool) : Oc → Rs Vl
  | .rt v => if own then .no else .ok v
  | .ro ds => if own then .ok (.d (.list ds)) else .no
  | .nx _ => if own then .no else .ok (.d .none)
  | .xc _ C n => .ex C n
  | _ => .no
def runX (s : XS K) (own : Bool) (k : Nat) (xs : List Av) : Rs Vl := (s.ev (start xs k)).res own
theorem Fn.run {F : Fn} {vs : List V} {H : Hp} {Q : VK} {E : XK} (s : XS K) (N : List Str) (h : F.sp K vs H Q E) (hs : ∀ xs : List Av, xs.length = F.m → F.f xs ≠ .no → runX s F.own (N.length - F.m) xs = F.f xs) :
    s.ts (.out E) { nx := fun _ H' => Q .non H', rt := Q } (L2.start N vs) H := by
  refine SpA.goN h N F.m (fun x => by rw [List.length_map]; exact x.2) fun x hp => ?_
  have hx := hs x.1 x.2 hp
  have hk := s.ok (.out E) (WofE E) (start x.1 (N.length - F.m)) rfl
  unfold runX at hx
  cases he : s.ev (start x.1 (N.length - F.m)) with
  | no => rw [he] at hx; exact absurd hx.symm hp
  | bk _ => rw [he] at hx; exact absurd hx.symm hp
  | ct _ => rw [he] at hx; exact absurd hx.symm hp
  | nx st =>
    rw [he] at hx hk
    cases ho : F.own with
    | true => rw [ho] at hx; exact absurd hx.symm hp
    | false =>
      rw [ho] at hx
      refine .inl ⟨_, ?_, ex_start hk⟩
      show resOf K _ (F.f x.1) = _
      rw [← hx]
      rfl
  | rt a =>
    rw [he] at hx hk
    cases ho : F.own with
    | true => rw [ho] at hx; exact absurd hx.symm hp
    | false =>
      rw [ho] at hx
      refine .inr ⟨.ok (vr K a), [], ?_, ex_start hk⟩
      show resOf K _ (F.f x.1) = _
      rw [← hx]
      rfl
  | ro ds =>
    rw [he] at hx hk
    cases ho : F.own with
    | false => rw [ho] at hx; exact absurd hx.symm hp
    | true =>
      rw [ho] at hx
      refine .inr ⟨.own (oL ds), [], ?_, ex_start hk⟩
      show resOf K _ (F.f x.1) = _
      rw [← hx]
      rfl
  | xc st C n =>
    rw [he] at hx hk
    refine .inr ⟨.err C n, _, ?_, ex_start (hk rfl)⟩
    show resOf K F.own (F.f x.1) = _
    rw [← hx]
    rfl
def startI (C a : Addr) (xs : List Av) (k : Nat) : List Sv := .oi C a [] :: start xs k
def Oc.resI (C a : Addr) : Oc → Rs (List (Str × PyData))
  | .nx st => match st[(0 : Nat)]? with
    | some (.oi C' a' fs) => if C' = C ∧ a' = a then .ok fs else .no
    | _ => .no
  | .xc _ D n => .ex D n
  | _ => .no
def runI (s : XS K) (C a : Addr) (k : Nat) (xs : List Av) : Rs (List (Str × PyData)) := (s.ev (startI C a xs k)).resI C a
theorem ex_startI {t : TS} {W : WX} {o : Out} {C a : Addr} {xs : List Av} {k : Nat} (h : Ex W t (sls K (startI C a xs k)) o) : Ex W t (stI C a (xs.map (bw K)) k) o := ⟨fun D s q => by
  obtain ⟨L, sl, la⟩ := s
  have sl : Slots _ _ _ (Sl.o (oI C a []) :: st0 (xs.map (bw K)) k) L := sl
  cases sl with
  | o h1 h2 => exact h.run D ⟨_, .o h1 (slots_b h2), la⟩ q⟩
theorem FnI.run {F : FnI} {C : Addr} {vs : List V} {H : Hp} {Q : VK} {E : XK} (s : XS K) (N : List Str) (h : F.sp K C vs H Q E) (hs : ∀ xs : List Av, xs.length = F.m → F.f xs ≠ .no → ∀ a, runI s C a (N.length - (F.m + 1)) xs = F.f xs) :
    s.ts (.out E) { nx := fun _ H' => Q .non H', rt := Q } (L2.start N vs) H := by
  refine SpI.run (N := N) h (fun x => by rw [List.length_map]; exact x.2) fun x a hp => ?_
  have hx := hs x.1 x.2 hp a
  have hk := s.ok (.out E) (WofE E) (startI C a x.1 (N.length - (F.m + 1))) rfl
  unfold runI at hx
  cases he : s.ev (startI C a x.1 (N.length - (F.m + 1))) with
  | no => rw [he] at hx; exact absurd hx.symm hp
  | bk _ => rw [he] at hx; exact absurd hx.symm hp
  | ct _ => rw [he] at hx; exact absurd hx.symm hp
  | rt _ => rw [he] at hx; exact absurd hx.symm hp
  | ro _ => rw [he] at hx; exact absurd hx.symm hp
  | xc st D n =>
    rw [he] at hx hk
    refine .inr ⟨D, n, _, ?_, ex_startI (hk rfl)⟩
    show iresOf (F.f x.1) = _
    rw [← hx]
    rfl
  | nx st =>
    rw [he] at hx hk
    have hx2 : (match st[(0 : Nat)]? with
      | some (.oi C' a' fs) => if C' = C ∧ a' = a then Rs.ok fs else .no
      | _ => .no) = F.f x.1 := hx
    cases hst : st[(0 : Nat)]? with
    | none => rw [hst] at hx2; exact absurd hx2.symm hp
    | some sv =>
      rw [hst] at hx2
      cases sv with
      | oi C' a' fs =>
        simp only at hx2
        by_cases hc : C' = C ∧ a' = a
        · rw [if_pos hc] at hx2
          obtain ⟨rfl, rfl⟩ := hc
          refine .inl ⟨datF fs, _, ?_, sls_get (K := K) hst, ex_startI hk⟩
          show iresOf (F.f x.1) = _
          rw [← hx2]
          rfl
        · rw [if_neg hc] at hx2; exact absurd hx2.symm hp
      | _ => exact absurd hx2.symm hp
end
end R

set_option Elab.async false
set_option linter.all false
set_option maxRecDepth 100000
set_option maxHeartbeats 2000000
namespace R
open PySem PySem.Spec PyProof.Rows L2 Z
section
variable {K : PySem.W.Frag}
/-! operators of ints -/
def O2.int0 (g : Int → Int → Int) : O2 K where
  r := rI0 fun i j => .int (g i j)
  ka := false
  kb := false
  f := fun x y => match x, y with
    | .v (.d (.int i)), .v (.d (.int j)) => some (.d (.int (g i j)))
    | _, _ => none
  ok := fun x y z h => by
    split at h
    · cases h; exact o_int0
    · cases h
def O2.bool0 (g : Int → Int → Bool) : O2 K where
  r := rI0 fun i j => .bl (g i j)
  ka := false
  kb := false
  f := fun x y => match x, y with
    | .v (.d (.int i)), .v (.d (.int j)) => some (.d (.bool (g i j)))
    | _, _ => none
  ok := fun x y z h => by
    split at h
    · cases h; exact o_bool0
    · cases h
def O2.intC (C : Int → Int → Prop) [∀ i j, Decidable (C i j)] (g : Int → Int → Int) : O2 K where
  r := rI C fun i j => .int (g i j)
  ka := false
  kb := false
  f := fun x y => match x, y with
    | .v (.d (.int i)), .v (.d (.int j)) => if C i j then some (.d (.int (g i j))) else none
    | _, _ => none
  ok := fun x y z h => by
    split at h
    · split at h
      · cases h; exact o_intC (by assumption)
      · cases h
    · cases h
def O2.add : O2 K := .int0 fun i j => i + j
def O2.sub : O2 K := .int0 fun i j => i - j
def O2.lt : O2 K := .bool0 fun i j => decide (i < j)
def O2.le : O2 K := .bool0 fun i j => decide (i ≤ j)
def O2.gt : O2 K := .bool0 fun i j => decide (j < i)
def O2.ge : O2 K := .bool0 fun i j => decide (j ≤ i)
instance (i j : Int) : Decidable (CMul i j) := by unfold CMul; exact inferInstance
instance (i j : Int) : Decidable (CMulW i j) := by unfold CMulW; exact inferInstance
instance (i j : Int) : Decidable (CDivW i j) := by unfold CDivW; exact inferInstance
instance (i j : Int) : Decidable (CPow i j) := by unfold CPow; exact inferInstance
/-- of bounded size, or one of them small -/
def CMulU (i j : Int) : Prop := i.natAbs < 18446744073709551616 ∨ j.natAbs < 18446744073709551616 ∨ CMulW i j
instance (i j : Int) : Decidable (CMulU i j) := by unfold CMulU; exact inferInstance
theorem CMulU.ok {i j : Int} (h : CMulU i j) : IntMulOk i j := by
  rcases h with h | h | h
  · exact CMul.ok (.inl ⟨by omega, by omega⟩)
  · exact CMul.ok (.inr ⟨by omega, by omega⟩)
  · exact h.ok
theorem op_mulU {X : Cx} : OpR X (binaryOp .Mult) (rI CMulU fun i j => .int (i * j)) := opI fun _ _ _ _ _ _ _ hc q => mul_int q hc.ok
def O2.mul : O2 K := .intC CMulU fun i j => i * j
/-- // by a divisor of less than 9000 bits that is not 0 -/
def CDivU (_ j : Int) : Prop := j ≠ 0 ∧ j.natAbs.log2 < 9000
instance (i j : Int) : Decidable (CDivU i j) := by unfold CDivU; exact inferInstance
theorem op_fdivU {X : Cx} : OpR X (binaryOp .FloorDiv) (rI CDivU fun i j => .int (i.fdiv j)) := opI fun _ _ _ _ _ _ _ hc q => floordiv_int hc.1 q (.inl (PyProof.noPylong_of_log2 hc.2))
def O2.div : O2 K := .intC CDivW fun i j => i / j
def O2.divU : O2 K := .intC CDivU fun i j => i.fdiv j
def O2.mod : O2 K := .intC (fun _ j => 0 < j) fun i j => i % j
def O2.pow : O2 K := .intC CPow fun i j => i ^ j.toNat
def O2.shl : O2 K := .intC CPow fun i j => i * 2 ^ j.toNat
def O2.shr : O2 K := .intC (fun _ j => 0 ≤ j) fun i j => i / 2 ^ j.toNat
def O2.band : O2 K := .int0 fun i j => Builtin.bitAnd i j
/-! equality -/
def O2.eq : O2 K where
  r := rEq
  ka := false
  kb := false
  f := fun x y => match x, y with
    | .v (.d (.int i)), .v (.d (.int j)) => some (.d (.bool (decide (i = j))))
    | .v (.d (.str i)), .v (.d (.str j)) => some (.d (.bool (decide (i = j))))
    | _, _ => none
  ok := fun x y z h => by
    split at h
    · cases h; exact o_eqI
    · cases h; exact o_eqS
    · cases h
def O2.ne : O2 K where
  r := rNe
  ka := false
  kb := false
  f := fun x y => match x, y with
    | .v (.d (.int i)), .v (.d (.int j)) => some (.d (.bool (!decide (i = j))))
    | .v (.d (.str i)), .v (.d (.str j)) => some (.d (.bool (!decide (i = j))))
    | _, _ => none
  ok := fun x y z h => by
    split at h
    · cases h; exact o_neI
    · cases h; exact o_neS
    · cases h
def O2.eqD : O2 K where
  r := rEqD K
  ka := false
  kb := false
  f := fun x y => match x, y with
    | .v (.d a), .v (.d b) => if SeqAt.shaped a = true ∧ SeqAt.shaped b = true then some (.d (.bool (PyData.eqv a b))) else none
    | _, _ => none
  ok := fun x y z h => by
    split at h
    · split at h
      · rename_i hc
        cases h; exact o_eqD hc.1 hc.2
      · cases h
    · cases h
def O2.neD : O2 K where
  r := rNeD K
  ka := false
  kb := false
  f := fun x y => match x, y with
    | .v (.d a), .v (.d b) => if SeqAt.shaped a = true ∧ SeqAt.shaped b = true then some (.d (.bool (!PyData.eqv a b))) else none
    | _, _ => none
  ok := fun x y z h => by
    split at h
    · split at h
      · rename_i hc
        cases h; exact o_neD hc.1 hc.2
      · cases h
    · cases h
theorem o_neDL {ds : List PyData} {e : PyData} (hd : SeqAt.shaped (.list ds) = true) (he : SeqAt.shaped e = true) : Op2 (rNeD K) (bL ds) (pu (dat e)) (dB (!PyData.eqv (.list ds) e)) := fun G H L x y Q l hx hy q => by
  obtain ⟨a, vs, rfl, h, d⟩ := bl_sq l hx
  exact ⟨.list ds, e, dq_dp (Dq.lst h (dpAll_up l.same d)), dq_dp (dp_up l.same hy), hd, he, q _ (Dq.bl _)⟩
/-- != of a list that is lent -/
def O2.neL : O2 K where
  r := rNeD K
  ka := true
  kb := false
  f := fun x y => match x, y with
    | .l ds, .v (.d b) => if SeqAt.shaped (.list ds) = true ∧ SeqAt.shaped b = true then some (.d (.bool (!PyData.eqv (.list ds) b))) else none
    | _, _ => none
  ok := fun x y z h => by
    split at h
    · split at h
      · rename_i hc
        cases h; exact o_neDL hc.1 hc.2
      · cases h
    · cases h
def O2.isN : O2 K where
  r := fun x y H Q => y = .non ∧ Q (.bl (decide (x = .non))) H
  ka := false
  kb := false
  f := fun x y => match x, y with
    | .v (.d a), .v (.d .none) => some (.d (.bool (isNone a)))
    | _, _ => none
  ok := fun x y z h => by
    split at h
    · cases h; exact o_isN
    · cases h
def O2.notN : O2 K where
  r := fun x y H Q => y = .non ∧ Q (.bl (!decide (x = .non))) H
  ka := false
  kb := false
  f := fun x y => match x, y with
    | .v (.d a), .v (.d .none) => some (.d (.bool (!isNone a)))
    | _, _ => none
  ok := fun x y z h => by
    split at h
    · cases h; exact o_notN
    · cases h
def O2.isB : O2 K where
  r := rIsB
  ka := false
  kb := false
  f := fun x y => match x, y with
    | .v (.d (.bool a)), .v (.d (.bool b)) => some (.d (.bool (decide (a = b))))
    | _, _ => none
  ok := fun x y z h => by
    split at h
    · cases h
      exact fun G H L x y Q _ hx hy q => by
        cases hx; cases hy
        exact ⟨_, _, rfl, rfl, q _ (Dq.bl _)⟩
    · cases h
def O2.notB : O2 K where
  r := rNotB
  ka := false
  kb := false
  f := fun x y => match x, y with
    | .v (.d (.bool a)), .v (.d (.bool b)) => some (.d (.bool (!decide (a = b))))
    | _, _ => none
  ok := fun x y z h => by
    split at h
    · cases h
      exact fun G H L x y Q _ hx hy q => by
        cases hx; cases hy
        exact ⟨_, _, rfl, rfl, q _ (Dq.bl _)⟩
    · cases h
/-! places -/
def O2.ixL : O2 K where
  r := rIxL K
  ka := true
  kb := false
  f := fun x y => match x, y with
    | .l ds, .v (.d (.int i)) => (atI ds i).map Vl.d
    | _, _ => none
  ok := fun x y z h => by
    split at h
    · obtain ⟨d, h1, h2⟩ := Option.map_eq_some_iff.mp h
      cases h2
      exact o_ixL h1
    · cases h
def O2.ixS : O2 K where
  r := rIxL K
  ka := false
  kb := false
  f := fun x y => match x, y with
    | .v (.s xs), .v (.d (.int i)) => if 0 ≤ i then (xs[i.toNat]?).map fun n => .d (.int n) else none
    | _, _ => none
  ok := fun x y z h => by
    split at h
    · split at h
      · obtain ⟨d, h1, h2⟩ := Option.map_eq_some_iff.mp h
        cases h2
        exact o_ixS (by assumption) h1
      · cases h
    · cases h
def O2.ixT : O2 K where
  r := rIxT K
  ka := false
  kb := false
  f := fun x y => match x, y with
    | .v (.d (.tuple ds)), .v (.d (.int i)) => (atI ds i).map Vl.d
    | _, _ => none
  ok := fun x y z h => by
    split at h
    · obtain ⟨d, h1, h2⟩ := Option.map_eq_some_iff.mp h
      cases h2
      exact o_ixT h1
    · cases h
def intsOf : List PyData → Option (List Int)
  | [] => some []
  | .int n :: r => (intsOf r).map (n :: ·)
  | _ => none
theorem intsOf_some : ∀ {ds : List PyData} {ns : List Int}, intsOf ds = some ns → ds = ns.map .int
  | [], ns, h => by cases h; rfl
  | d :: r, ns, h => by
    cases d with
    | int n =>
      obtain ⟨ms, h1, h2⟩ := Option.map_eq_some_iff.mp (show (intsOf r).map (n :: ·) = some ns from h)
      subst h2
      rw [List.map_cons, intsOf_some h1]
    | _ => cases h
theorem intsOf_map : ∀ ns : List Int, intsOf (ns.map .int) = some ns
  | [] => rfl
  | n :: ns => by
    show (intsOf (ns.map .int)).map (n :: ·) = _
    rw [intsOf_map ns]
    rfl
def boolsOf : List PyData → Option (List Bool)
  | [] => some []
  | .bool n :: r => (boolsOf r).map (n :: ·)
  | _ => none
theorem boolsOf_some : ∀ {ds : List PyData} {ns : List Bool}, boolsOf ds = some ns → ds = ns.map .bool
  | [], ns, h => by cases h; rfl
  | d :: r, ns, h => by
    cases d with
    | bool n =>
      obtain ⟨ms, h1, h2⟩ := Option.map_eq_some_iff.mp (show (boolsOf r).map (n :: ·) = some ns from h)
      subst h2
      rw [List.map_cons, boolsOf_some h1]
    | _ => cases h
theorem boolsOf_map : ∀ ns : List Bool, boolsOf (ns.map .bool) = some ns
  | [] => rfl
  | n :: ns => by
    show (boolsOf (ns.map .bool)).map (n :: ·) = _
    rw [boolsOf_map ns]
    rfl
def O2.inL : O2 K where
  r := rIn K false
  ka := false
  kb := true
  f := fun x y => match x, y with
    | .v (.d (.int n)), .l ds => (intsOf ds).map fun ns => .d (.bool (decide (n ∈ ns)))
    | _, _ => none
  ok := fun x y z h => by
    split at h
    · obtain ⟨ns, h1, h2⟩ := Option.map_eq_some_iff.mp h
      cases h2
      rw [intsOf_some h1]
      exact o_inL
    · cases h
def O2.notInL : O2 K where
  r := rIn K true
  ka := false
  kb := true
  f := fun x y => match x, y with
    | .v (.d (.int n)), .l ds => (intsOf ds).map fun ns => .d (.bool (!decide (n ∈ ns)))
    | _, _ => none
  ok := fun x y z h => by
    split at h
    · obtain ⟨ns, h1, h2⟩ := Option.map_eq_some_iff.mp h
      cases h2
      rw [intsOf_some h1]
      exact o_notInL
    · cases h
/-! lists put together -/
def O2N.cat : O2N K where
  r := rCat
  ka := true
  kb := true
  f := fun x y => match x, y with
    | .l ds, .l es => if ds.length + es.length ≤ 1000000 then some (ds ++ es) else none
    | _, _ => none
  ok := fun x y z h => by
    split at h
    · split at h
      · cases h; exact o_cat (by assumption)
      · cases h
    · cases h
def O2N.rep : O2N K where
  r := rRep
  ka := true
  kb := false
  f := fun x y => match x, y with
    | .l ds, .v (.d (.int k)) => if ds.length * k.toNat ≤ 1000000 ∧ k.natAbs < 9223372036854775808 then some (List.replicate k.toNat ds).flatten else none
    | _, _ => none
  ok := fun x y z h => by
    split at h
    · split at h
      · rename_i hc
        cases h; exact o_rep hc.1 (by omega) (by omega)
      · cases h
    · cases h
/-! builtins -/
def Bi.len : Bi K where
  r := cLen K
  f := fun as => match as with
    | [.l ds] => some (.d (.int ds.length))
    | [.v (.s xs)] => some (.d (.int xs.length))
    | _ => none
  ok := fun as z h => by
    split at h
    · cases h; exact cl_len
    · cases h; exact cl_lenS
    · cases h
def Bi.abs : Bi K where
  r := cAbs
  f := fun as => match as with
    | [.v (.d (.int n))] => some (.d (.int (if n < 0 then -n else n)))
    | _ => none
  ok := fun as z h => by
    split at h
    · cases h; exact cl_abs
    · cases h
def Bi.min2 : Bi K where
  r := cMin2
  f := fun as => match as with
    | [.v (.d (.int m)), .v (.d (.int n))] => some (.d (.int (if n < m then n else m)))
    | _ => none
  ok := fun as z h => by
    split at h
    · cases h; exact cl_min2
    · cases h
def Bi.max2 : Bi K where
  r := cMax2
  f := fun as => match as with
    | [.v (.d (.int m)), .v (.d (.int n))] => some (.d (.int (if n > m then n else m)))
    | _ => none
  ok := fun as z h => by
    split at h
    · cases h; exact cl_max2
    · cases h
def Bi.int : Bi K where
  r := cInt
  f := fun as => match as with
    | [.v (.d (.int n))] => some (.d (.int n))
    | [.v (.d (.bool b))] => some (.d (.int (if b then 1 else 0)))
    | _ => none
  ok := fun as z h => by
    split at h
    · cases h; exact cl_int
    · cases h; exact cl_intB
    · cases h
def Bi.sum : Bi K where
  r := rSum K
  f := fun as => match as with
    | [.l ds] => (intsOf ds).map fun ns => .d (.int ns.sum)
    | _ => none
  ok := fun as z h => by
    split at h
    · obtain ⟨ns, h1, h2⟩ := Option.map_eq_some_iff.mp h
      cases h2
      rw [intsOf_some h1]
      exact cl_sum
    · cases h
def Bi.any : Bi K where
  r := rAny K
  f := fun as => match as with
    | [.l ds] => (boolsOf ds).map fun ns => .d (.bool (ns.any id))
    | _ => none
  ok := fun as z h => by
    split at h
    · obtain ⟨ns, h1, h2⟩ := Option.map_eq_some_iff.mp h
      cases h2
      rw [boolsOf_some h1]
      exact cl_any
    · cases h
def Bi.all : Bi K where
  r := rAll K
  f := fun as => match as with
    | [.l ds] => (boolsOf ds).map fun ns => .d (.bool (ns.all id))
    | _ => none
  ok := fun as z h => by
    split at h
    · obtain ⟨ns, h1, h2⟩ := Option.map_eq_some_iff.mp h
      cases h2
      rw [boolsOf_some h1]
      exact cl_all
    · cases h
def BiN.list : BiN K where
  r := cList K
  f := fun as => match as with
    | [.l ds] => some ds
    | _ => none
  ok := fun as z h => by
    split at h
    · cases h; exact cl_list
    · cases h
def Bi.gcd : Bi K where
  r := rGcd
  f := fun as => match as with
    | [.v (.d (.int a)), .v (.d (.int b))] => some (.d (.int ((Nat.gcd a.natAbs b.natAbs : Nat) : Int)))
    | _ => none
  ok := fun as z h => by
    split at h
    · cases h
      exact fun G H L vs Q l r q => by
        cases r with
        | cons h1 t =>
          cases t with
          | cons h2 t =>
            cases t; cases h1; cases h2
            exact ⟨_, _, rfl, q _ (Dq.int _)⟩
    · cases h
def rLcm : List V → Hp → VK → Prop := fun vs H Q => ∃ a b : Int, vs = [.int a, .int b] ∧ (a.natAbs.log2 < 9000 ∧ b.natAbs.log2 < 9000) ∧ Q (.int ((Nat.lcm a.natAbs b.natAbs : Nat) : Int)) H
theorem log_pow {n k : Nat} (h : n.log2 < k) : n < 2 ^ k := by
  by_cases z : n = 0
  · rw [z]; exact Nat.two_pow_pos k
  · exact (Nat.log2_lt z).mp h
theorem cr_lcm {X : Cx} : CallR X (.builtin "math.lcm") rLcm := by
  intro pins s σ H vs us Q I r h
  obtain ⟨a, b, rfl, ⟨ha, hb⟩, q⟩ := h
  obtain ⟨t, u, rfl⟩ := Vals.int2 r
  have e : Nat.lcm 1 a.natAbs = a.natAbs := by simp [Nat.lcm]
  have h1 : (max 1 a.natAbs).log2 < 9000 := by
    rcases Nat.le_total 1 a.natAbs with z | z
    · rw [Nat.max_eq_right z]; exact ha
    · rw [Nat.max_eq_left z]; decide
  have h2 : (max a.natAbs b.natAbs).log2 < 9000 := by
    rcases Nat.le_total a.natAbs b.natAbs with z | z
    · rw [Nat.max_eq_right z]; exact hb
    · rw [Nat.max_eq_left z]; exact ha
  have hl : (a.natAbs.lcm b.natAbs) < 2 ^ (18000 + 1) := by
    have := PySem.W.mc_lcm_le a.natAbs b.natAbs
    refine Nat.lt_of_le_of_lt this ?_
    have := Nat.mul_lt_mul'' (log_pow ha) (log_pow hb)
    rw [← Nat.pow_add] at this
    exact Nat.lt_of_lt_of_le this (Nat.pow_le_pow_right (by decide) (by decide))
  have hsz : ((((Nat.lcm 1 a.natAbs).lcm b.natAbs : Nat) : Int)).natAbs.log2 < bitsLine := by
    rw [e, Int.natAbs_natCast]
    have := PySem.W.mg_log hl
    have e2 : bitsLine = 134217728 := by decide
    omega
  have g := (PySem.W.mg_run_lcm a t b u (by omega) (by omega) hsz).meets
  exact call_function_meets PySem.W.MGF.kind_lcm PySem.W.MGF.plain_lcm PySem.W.MGF.entry_lcm (PySem.W.MGF.args_lcm _ _) g (by rw [e]; exact ⟨.int _, H, I.tok _, ⟨_, rfl⟩, q⟩)
def Bi.lcm : Bi K where
  r := rLcm
  f := fun as => match as with
    | [.v (.d (.int a)), .v (.d (.int b))] => if a.natAbs.log2 < 9000 ∧ b.natAbs.log2 < 9000 then some (.d (.int ((Nat.lcm a.natAbs b.natAbs : Nat) : Int))) else none
    | _ => none
  ok := fun as z h => by
    split at h
    · split at h
      · rename_i hc
        cases h
        exact fun G H L vs Q l r q => by
          cases r with
          | cons h1 t =>
            cases t with
            | cons h2 t =>
              cases t; cases h1; cases h2
              exact ⟨_, _, rfl, hc, q _ (Dq.int _)⟩
      · cases h
    · cases h
/-! a part of the script -/
theorem cut_ints {xs : List Int} {lo hi : Option Int} {G : Hp} : DqAll G (cutV (xs.map V.int) lo hi) (cutD (xs.map PyData.int) lo hi) := cut_all (dpAll_of_ints xs) lo hi
def XN.slS (e : XE K) (lo hi : XO K) : XN K where
  te := fun md => tSl (rSlL K) (e.te md) (lo.to md) (hi.to md)
  ev := fun st => match okV (e.ev st), okV (lo.ev st), okV (hi.ev st) with
    | some (.s xs), some l, some h => .ok (cutD (xs.map .int) l h)
    | _, _, _ => .no
  ok := fun md st => by
    split
    · rename_i xs l u h1 h2 h3
      have o0 := e.ok md st
      have o1 := lo.ok md st
      have o2 := hi.ok md st
      rw [okV_some h1] at o0
      rw [okV_some h2] at o1
      rw [okV_some h3] at o2
      exact ⟨fun Q s q => o0.run _ s fun G1 H1 v e1 s1 r => o1.run _ s1 fun G2 H2 e2 s2 => o2.run _ s2 fun G3 H3 e3 s3 => by
        obtain ⟨L, a, b⟩ := id s3
        obtain ⟨p, rfl, hv⟩ := r G3 L H3 (e2.trans e3) a b
        exact ⟨p, _, rfl, sqL_up b.same hv, fun n hn => q G3 H3 n _ ((e1.trans e2).trans e3) s3 hn cut_ints⟩⟩
    · trivial
def zipD : List PyData → List PyData → List PyData
  | d :: ds, e :: es => .tuple [d, e] :: zipD ds es
  | _, _ => []
theorem zipD_len : ∀ (ds es : List PyData), (zipD ds es).length = min ds.length es.length
  | [], es => by simp [zipD]
  | d :: ds, [] => by simp [zipD]
  | d :: ds, e :: es => by
    show (zipD ds es).length + 1 = _
    rw [zipD_len ds es]
    simp only [List.length_cons]
    omega
theorem zipD_get : ∀ (ds es : List PyData) (i : Nat) (h : i < (zipD ds es).length) (h1 : i < ds.length) (h2 : i < es.length), (zipD ds es)[i] = .tuple [ds[i], es[i]]
  | [], es, i, h, h1, h2 => absurd h1 (Nat.not_lt_zero _)
  | d :: ds, [], i, h, h1, h2 => absurd h2 (Nat.not_lt_zero _)
  | d :: ds, e :: es, 0, h, h1, h2 => rfl
  | d :: ds, e :: es, i + 1, h, h1, h2 => zipD_get ds es i (by simpa [zipD] using h) (by simpa using h1) (by simpa using h2)
def XI.zip (a b : XE K) : XI K where
  ti := fun md => iZip K (tCons (a.te md) (tCons (b.te md) tNil))
  ev := fun st => match a.es st, b.es st with
    | some ds, some es => .ok (zipD ds es)
    | _, _ => .no
  ok := fun md st => by
    split
    · rename_i ds es h1 h2
      have o1 := a.oks md st ds h1
      have o2 := b.oks md st es h2
      exact ⟨fun {G σ L0 H} Q s q => o1.run _ s fun G1 H1 a1 vs e1 s1 c1 d1 => o2.run _ s1 fun G2 H2 a2 ws e2 s2 c2 d2 => by
        obtain ⟨L, sl, la⟩ := id s2
        refine ⟨a1, a2, vs, ws, rfl, c1 _ _ _ e2 la, c2 _ _ _ (Same.refl _) la, q G2 H2 _ (e1.trans e2) s2 ⟨fun i G L H e3 l hi => ?_, fun i G L H e3 l hi => ?_⟩⟩
        · have hi2 := hi
          rw [zipD_len] at hi2
          have i1 : i < ds.length := by omega
          have i2 : i < es.length := by omega
          have hq1 := c1 _ _ _ (e2.trans e3) l
          have hq2 := c2 _ _ _ e3 l
          obtain ⟨v, hv, dv⟩ := dpAll_get d1 (List.getElem?_eq_getElem i1)
          obtain ⟨w, hw, dw⟩ := dpAll_get d2 (List.getElem?_eq_getElem i2)
          refine ⟨⟨vs, ws, v, w, hq1, hq2, hv, hw⟩, fun x H' y => ?_⟩
          obtain ⟨T, x1, x2, rfl, hT, rfl, y1, y2⟩ := y
          have ex1 : x1 = v := Option.some.inj ((y1 vs hq1).symm.trans hv)
          have ex2 : x2 = w := Option.some.inj ((y2 ws hq2).symm.trans hw)
          subst ex1
          subst ex2
          have g := same_upd (o := .tup [x1, x2]) (l.freshG hT)
          refine ⟨_, g, fun L l => l.grow hT, ?_⟩
          rw [zipD_get ds es i hi i1 i2]
          exact Dq.tup upd_same (.cons (dp_up ((e2.trans e3).trans g) dv) (.cons (dp_up (e3.trans g) dw) .nil))
        · refine ⟨vs, ws, c1 _ _ _ (e2.trans e3) l, c2 _ _ _ e3 l, ?_⟩
          rw [zipD_len] at hi
          rw [dpAll_len d1, dpAll_len d2]
          omega⟩
    · trivial
theorem strs_flat : ∀ ss : List Str, (ss.map V.str).all flatV = true
  | [] => rfl
  | s :: ss => by
    rw [List.map_cons, List.all_cons, strs_flat ss]
    rfl
theorem inV_strs (s : Str) : ∀ ss : List Str, inV (.str s) (ss.map V.str) = decide (s ∈ ss)
  | [] => rfl
  | t :: ss => by
    have ih := inV_strs s ss
    show (_ || inV (.str s) (ss.map V.str)) = _
    rw [ih]
    have e : eqV (.str t) (.str s) = decide (t = s) := by first | rfl | simp [eqV]
    by_cases h : s = t
    · subst h; simp [e]
    · have h2 : t ≠ s := fun z => h z.symm
      simp [h, h2, e]
/-- x not in a tuple of texts that the module keeps -/
def XE.inK (neg : Bool) (a : XE K) (p : Addr) (ss : List Str) (h : ∀ H : Hp, SqT K H p (ss.map V.str)) : XE K := .of (fun md => tOp (rIn K neg) (a.te md) (tC (.ref p)))
  (fun st => (a.ev st).bind fun x => match x with
    | .d (.str s) => .ok (.d (.bool (if neg then !decide (s ∈ ss) else decide (s ∈ ss))))
    | _ => .no)
  fun md st => (a.ok md st).bind (fun C n W h => fun Q s q => h _ s q) fun x hx => by
    split
    · rename_i s
      exact Ev.pure fun {G σ L0 H} Q st' q => hx.atp st' fun G1 H1 v e1 s1 r => by
        cases r
        refine ⟨p, _, rfl, .inr (h H1), rfl, strs_flat ss, ?_⟩
        rw [inV_strs]
        exact q _ _ _ e1 s1 (by cases neg <;> exact Dq.bl _)
    · trivial
def isSeq : PyData → Bool
  | .list _ => true
  | .tuple _ => true
  | _ => false
def reprOk (x : PyData) : Bool := isSeq x && (x.showable && (!x.hasDict && (decide (x.depth ≤ 60) && decide (x.shown.length ≤ sizeLine))))
def Bi.repr : Bi K where
  r := cRepr
  f := fun as => match as with
    | [.v (.d x)] => if reprOk x = true then some (.d (.str x.shown)) else none
    | _ => none
  ok := fun as z h => by
    split at h
    · rename_i x
      split at h
      · rename_i hc
        cases h
        unfold reprOk at hc
        simp only [Bool.and_eq_true, decide_eq_true_eq, Bool.not_eq_true'] at hc
        obtain ⟨h1, h2, h3, h4, h5⟩ := hc
        exact fun G H L vs Q l r q => by
          cases r with
          | cons hd t =>
            cases t
            have hd : Dq G _ x := hd
            cases x with
            | list ds =>
              cases hd with
              | lst a b => exact ⟨_, .list ds, rfl, .lst (l.same _ _ a) (dpAll_up l.same b), h2, h3, h4, h5, q _ (Dq.str _)⟩
            | tuple ds =>
              cases hd with
              | tup a b => exact ⟨_, .tuple ds, rfl, .tup (l.same _ _ a) (dpAll_up l.same b), h2, h3, h4, h5, q _ (Dq.str _)⟩
            | _ => cases h1
      · cases h
    · cases h
end
end R

set_option Elab.async false
set_option linter.all false
set_option maxRecDepth 100000
set_option maxHeartbeats 2000000
namespace R
open PySem PySem.Spec PyProof.Rows L2 Z
theorem slots_out {G : Hp} {L0 : List Cell} {O : Op} : ∀ {σ : L2.St} {ρ : List Sl} {L : List Cell} {i : Nat}, Slots G L0 σ ρ L → ρ[i]? = some (.o O) → ∃ a cs M, σ[i]? = some (some (.ref a)) ∧ O.p G a cs ∧ L.Perm (cs ++ M) ∧ Slots G L0 σ (ρ.set i .x) M
  | _, _, _, _, .nil, h => by simp at h
  | _, _, _, 0, .x _, h => by simp at h
  | _, _, _, 0, .p _ _, h => by simp at h
  | _, _, _, 0, .b _ _, h => by simp at h
  | _, _, _, 0, .o (a := a) (cs := cs) (L := M) q s, h => by
    simp at h; subst h
    exact ⟨a, cs, M, rfl, q, .refl _, .x s⟩
  | _, _, _, i + 1, .x s, h => by
    obtain ⟨a, cs, M, h1, h2, h3, h4⟩ := slots_out (i := i) s (by simpa using h)
    exact ⟨a, cs, M, by simpa using h1, h2, h3, .x h4⟩
  | _, _, _, i + 1, .p q s, h => by
    obtain ⟨a, cs, M, h1, h2, h3, h4⟩ := slots_out (i := i) s (by simpa using h)
    exact ⟨a, cs, M, by simpa using h1, h2, h3, .p q h4⟩
  | _, _, _, i + 1, .b q s, h => by
    obtain ⟨a, cs, M, h1, h2, h3, h4⟩ := slots_out (i := i) s (by simpa using h)
    exact ⟨a, cs, M, by simpa using h1, h2, h3, .b q h4⟩
  | _, _, _, i + 1, .o (cs := ds) q s, h => by
    obtain ⟨a, cs, M, h1, h2, h3, h4⟩ := slots_out (i := i) s (by simpa using h)
    exact ⟨a, cs, ds ++ M, by simpa using h1, h2, (h3.append_left ds).trans (perm_swap _ _ _), .o q h4⟩
theorem slots_in {G : Hp} {L0 : List Cell} {O : Op} {a : Addr} {cs : List Cell} (q : O.p G a cs) : ∀ {σ : L2.St} {ρ : List Sl} {M : List Cell} {i : Nat}, Slots G L0 σ (ρ.set i .x) M → σ[i]? = some (some (.ref a)) → ρ[i]? = some (.o O) → ∃ L, Slots G L0 σ ρ L ∧ L.Perm (cs ++ M)
  | σ, [], M, i, h, h1, h2 => by simp at h2
  | σ, r :: ρ, M, 0, h, h1, h2 => by
    have h2 : r = .o O := by simpa using h2
    subst h2
    have h : Slots G L0 σ (.x :: ρ) M := h
    cases h with
    | @x v σ' _ _ s' =>
      have h1 : v = some (.ref a) := by simpa using h1
      subst h1
      exact ⟨_, .o q s', .refl _⟩
  | σ, r :: ρ, M, i + 1, h, h1, h2 => by
    have h : Slots G L0 σ (r :: ρ.set i .x) M := h
    cases h with
    | x s' =>
      obtain ⟨L, s2, p⟩ := slots_in q s' (by simpa using h1) (by simpa using h2)
      exact ⟨L, .x s2, p⟩
    | p q' s' =>
      obtain ⟨L, s2, p⟩ := slots_in q s' (by simpa using h1) (by simpa using h2)
      exact ⟨L, .p q' s2, p⟩
    | b q' s' =>
      obtain ⟨L, s2, p⟩ := slots_in q s' (by simpa using h1) (by simpa using h2)
      exact ⟨L, .b q' s2, p⟩
    | @o _ _ ds _ _ _ q' s' =>
      obtain ⟨L, s2, p⟩ := slots_in q s' (by simpa using h1) (by simpa using h2)
      exact ⟨ds ++ L, .o q' s2, (p.append_left ds).trans (perm_swap _ _ _)⟩
theorem slots_b_of {G : Hp} {L0 : List Cell} {B : Bw} {v : V} (q : B.p G L0 v) : ∀ {σ : L2.St} {ρ : List Sl} {M : List Cell} {i : Nat}, Slots G L0 σ (ρ.set i .x) M → σ[i]? = some (some v) → Slots G L0 σ (ρ.set i (.b B)) M
  | σ, [], M, i, h, h1 => h
  | σ, r :: ρ, M, 0, h, h1 => by
    have h : Slots G L0 σ (.x :: ρ) M := h
    cases h with
    | @x w σ' _ _ s' =>
      have h1 : w = some v := by simpa using h1
      subst h1
      exact .b q s'
  | σ, r :: ρ, M, i + 1, h, h1 => by
    have h : Slots G L0 σ (r :: ρ.set i .x) M := h
    show Slots G L0 σ (r :: ρ.set i (.b B)) M
    cases h with
    | x s' => exact .x (slots_b_of q s' (by simpa using h1))
    | p q' s' => exact .p q' (slots_b_of q s' (by simpa using h1))
    | b q' s' => exact .b q' (slots_b_of q s' (by simpa using h1))
    | o q' s' => exact .o q' (slots_b_of q s' (by simpa using h1))
theorem slots_x_of {G : Hp} {L0 : List Cell} {B : Bw} : ∀ {σ : L2.St} {ρ : List Sl} {M : List Cell} {i : Nat}, Slots G L0 σ (ρ.set i (.b B)) M → Slots G L0 σ (ρ.set i .x) M
  | σ, [], M, i, h => h
  | σ, r :: ρ, M, 0, h => by
    have h : Slots G L0 σ (.b B :: ρ) M := h
    cases h with
    | b q s' => exact .x s'
  | σ, r :: ρ, M, i + 1, h => by
    have h : Slots G L0 σ (r :: ρ.set i (.b B)) M := h
    show Slots G L0 σ (r :: ρ.set i .x) M
    cases h with
    | x s' => exact .x (slots_x_of s')
    | p q' s' => exact .p q' (slots_x_of s')
    | b q' s' => exact .b q' (slots_x_of s')
    | o q' s' => exact .o q' (slots_x_of s')
/-- an owned list, lent for the time of an expression -/
theorem stt_lend {G H : Hp} {ρ : List Sl} {σ : L2.St} {L0 : List Cell} {ds : List PyData} {i : Nat} (s : Stt G ρ σ L0 H) (hi : ρ[i]? = some (.o (oL ds))) :
    ∃ cs, Stt G (ρ.set i (.b (bL ds))) σ (cs ++ L0) H ∧ ∀ G' H', Same G G' → Stt G' (ρ.set i (.b (bL ds))) σ (cs ++ L0) H' → Stt G' ρ σ L0 H' := by
  obtain ⟨L, sl, la⟩ := s
  obtain ⟨a, cs, M, h1, h2, h3, h4⟩ := slots_out sl hi
  obtain ⟨vs, hcs, hd⟩ := id h2
  have la2 : Lay G (M ++ (cs ++ L0)) H := by
    refine la.perm ?_
    refine (h3.append_right L0).trans ?_
    rw [List.append_assoc]
    exact perm_swap _ _ _
  refine ⟨cs, ⟨M, slots_b_of (v := .ref a) ?_ (h4.mono fun c hc => List.mem_append_right _ hc) h1, la2⟩, fun G' H' e s' => ?_⟩
  · exact ⟨a, vs, rfl, .inr (List.mem_append_left _ (by rw [hcs]; exact List.mem_cons_self ..)), hd⟩
  · obtain ⟨L', sl', la'⟩ := s'
    have sx := slots_x_of sl'
    have sy := Slots.mix e h4 sx
    obtain ⟨L2, s2, p2⟩ := slots_in ((oL ds).up e h2) sy h1 hi
    refine ⟨L2, s2, la'.perm ?_⟩
    refine (perm_swap _ _ _).trans ?_
    rw [← List.append_assoc]
    exact (p2.symm).append_right L0
section
variable {K : PySem.W.Frag}
theorem EvN.lend {te : TE} {ρ : List Sl} {ds r : List PyData} {i : Nat} (hi : ρ[i]? = some (.o (oL ds))) (h : EvN te (ρ.set i (.b (bL ds))) r) : EvN te ρ r := ⟨fun {G σ L0 H} Q s q => by
  obtain ⟨cs, s1, back⟩ := stt_lend s hi
  exact h.run Q s1 fun G' H' p vs e s2 hp d => q G' H' p vs e (back G' H' e s2) hp d⟩
def XN.lend (i : Nat) (n : XN K) : XN K where
  te := n.te
  ev := fun st => match st[i]? with
    | some (.ol ds) => (match n.ev (st.set i (.bl ds)) with
      | .ok r => .ok r
      | _ => .no)
    | _ => n.ev st
  ok := fun md st => by
    cases hi : st[i]? with
    | none => exact n.ok md st
    | some s =>
      cases s with
      | ol ds =>
        have := n.ok md (st.set i (.bl ds))
        show Cm md _ _ _ (match n.ev (st.set i (.bl ds)) with
          | .ok r => .ok r
          | _ => .no)
        cases he : n.ev (st.set i (.bl ds)) with
        | ok r =>
          rw [he, sls_set] at this
          exact EvN.lend (sls_get (K := K) hi) this
        | ex _ _ => trivial
        | no => trivial
      | _ => exact n.ok md st
theorem slots_px {G : Hp} {L0 : List Cell} {R : Rp} : ∀ {σ : L2.St} {ρ : List Sl} {M : List Cell} {i : Nat}, Slots G L0 σ ρ M → ρ[i]? = some (.p R) → Slots G L0 σ (ρ.set i .x) M
  | σ, [], M, i, h, h1 => h
  | σ, r :: ρ, M, 0, h, h1 => by
    have h1 : r = .p R := by simpa using h1
    subst h1
    cases h with
    | p q s' => exact .x s'
  | σ, r :: ρ, M, i + 1, h, h1 => by
    show Slots G L0 σ (r :: ρ.set i .x) M
    cases h with
    | x s' => exact .x (slots_px s' (by simpa using h1))
    | p q' s' => exact .p q' (slots_px s' (by simpa using h1))
    | b q' s' => exact .b q' (slots_px s' (by simpa using h1))
    | o q' s' => exact .o q' (slots_px s' (by simpa using h1))
theorem slots_xp {G : Hp} {L0 : List Cell} {R : Rp} {v : V} (q : R.p G v) : ∀ {σ : L2.St} {ρ : List Sl} {M : List Cell} {i : Nat}, Slots G L0 σ (ρ.set i .x) M → σ[i]? = some (some v) → ρ[i]? = some (.p R) → Slots G L0 σ ρ M
  | σ, [], M, i, h, h1, h2 => by simp at h2
  | σ, r :: ρ, M, 0, h, h1, h2 => by
    have h2 : r = .p R := by simpa using h2
    subst h2
    have h : Slots G L0 σ (.x :: ρ) M := h
    cases h with
    | @x w σ' _ _ s' =>
      have h1 : w = some v := by simpa using h1
      subst h1
      exact .p q s'
  | σ, r :: ρ, M, i + 1, h, h1, h2 => by
    have h : Slots G L0 σ (r :: ρ.set i .x) M := h
    cases h with
    | x s' => exact .x (slots_xp q s' (by simpa using h1) (by simpa using h2))
    | p q' s' => exact .p q' (slots_xp q s' (by simpa using h1) (by simpa using h2))
    | b q' s' => exact .b q' (slots_xp q s' (by simpa using h1) (by simpa using h2))
    | o q' s' => exact .o q' (slots_xp q s' (by simpa using h1) (by simpa using h2))
theorem EvN.blank {te : TE} {ρ : List Sl} {r : List PyData} {R : Rp} {i : Nat} (hi : ρ[i]? = some (.p R)) (h : EvN te (ρ.set i .x) r) : EvN te ρ r := ⟨fun {G σ L0 H} Q s q => by
  obtain ⟨v, hv, rv⟩ := s.get_p hi
  obtain ⟨L, sl, la⟩ := s
  exact h.run Q ⟨L, slots_px sl hi, la⟩ fun G' H' p vs e ⟨L', sl', la'⟩ hp d => q G' H' p vs e ⟨L', slots_xp (R.up e rv) sl' hv hi, la'⟩ hp d⟩
/-- the variable of a comprehension, when its name is in use -/
def XN.blank (i : Nat) (n : XN K) : XN K where
  te := n.te
  ev := fun st => match st[i]? with
    | some (.v _) => (match n.ev (st.set i .x) with
      | .ok r => .ok r
      | _ => .no)
    | _ => n.ev st
  ok := fun md st => by
    cases hi : st[i]? with
    | none => exact n.ok md st
    | some s =>
      cases s with
      | v a =>
        have := n.ok md (st.set i .x)
        show Cm md _ _ _ (match n.ev (st.set i .x) with
          | .ok r => .ok r
          | _ => .no)
        cases he : n.ev (st.set i .x) with
        | ok r =>
          rw [he, sls_set] at this
          exact EvN.blank (sls_get (K := K) hi) this
        | ex _ _ => trivial
        | no => trivial
      | _ => exact n.ok md st
/-- a if t else b, as a test -/
def tIfT (t u v : TT) : TT := fun σ H Q => t σ H fun c H1 => if c = true then u σ H1 Q else v σ H1 Q
theorem pt_ifExpT {X : Cx} {c a b : Expr} {tc ta tb : TT} {pos : Pos} (hc : PT X c tc) (ha : PT X a ta) (hb : PT X b tb) : PT X (.IfExp c a b pos) (tIfT tc ta tb) := by
  refine ⟨fun pins s σ H Q I h => ?_⟩
  refine isTrue_IfExp (thn (hc.run pins s σ H _ I h) fun d s1 ⟨H1, I1, q1⟩ => ?_)
  cases d with
  | true => exact ha.run pins s1 σ H1 Q I1 q1
  | false => exact hb.run pins s1 σ H1 Q I1 q1
def XT.ife (t a b : XT K) : XT K where
  tt := fun md => tIfT (t.tt md) (a.tt md) (b.tt md)
  ev := fun st => (t.ev st).bind fun x => match x with
    | true => a.ev st
    | false => b.ev st
  ok := fun md st => (t.ok md st).bind (fun C n W h => fun Q s q => h _ s q) fun x hx => by
    cases x with
    | true =>
      have ha := a.ok md st
      show Cm md _ _ _ (a.ev st)
      cases he : a.ev st with
      | ok y => rw [he] at ha; exact ⟨fun Q s q => hx.run _ s fun G1 H1 e1 s1 => by rw [if_pos rfl]; exact ha.run _ s1 fun G2 H2 e2 s2 => q G2 H2 (e1.trans e2) s2⟩
      | ex C n =>
        rw [he] at ha
        exact fun l W w => fun {G σ L0 H} Q s q => hx.run _ s fun G1 H1 e1 s1 => by
          rw [if_pos rfl]
          exact ha l W w _ s1 fun G2 H2 d e2 s2 hd => q G2 H2 d (e1.trans e2) s2 hd
      | no => trivial
    | false =>
      have hb := b.ok md st
      show Cm md _ _ _ (b.ev st)
      cases he : b.ev st with
      | ok y => rw [he] at hb; exact ⟨fun Q s q => hx.run _ s fun G1 H1 e1 s1 => by rw [if_neg (by decide)]; exact hb.run _ s1 fun G2 H2 e2 s2 => q G2 H2 (e1.trans e2) s2⟩
      | ex C n =>
        rw [he] at hb
        exact fun l W w => fun {G σ L0 H} Q s q => hx.run _ s fun G1 H1 e1 s1 => by
          rw [if_neg (by decide)]
          exact hb l W w _ s1 fun G2 H2 d e2 s2 hd => q G2 H2 d (e1.trans e2) s2 hd
      | no => trivial
theorem Ex.par {W : WX} {ta : TA} {ρ : List Sl} {R1 R2 : Rp} {i j : Nat} (h : EvA ta ρ [pu R1, pu R2]) : Ex W (tPar i j ta) ρ (.nx ((ρ.set i (.p R1)).set j (.p R2))) := ⟨fun {G σ L0 H} D s q => h.at s fun G1 H1 vs L e1 sl la r => by
  cases r with
  | @cons v vs _ _ h1 t =>
    cases t with
    | @cons w vs _ _ h2 t =>
      cases t
      have s1 : Stt G1 ρ σ L0 H1 := ⟨L, sl, la⟩
      obtain ⟨G2, e2, s2⟩ := s1.set_p h1 i
      obtain ⟨G3, e3, s3⟩ := s2.set_p (R2.up e2 h2) j
      exact ⟨v, w, rfl, q G3 _ H1 ((e1.trans e2).trans e3) s3⟩⟩
def XS.par (i j : Nat) (as : XA K) : XS K where
  ts := fun md => tPar i j (as.ta md)
  ev := fun st => (as.ev st).oc st fun xs => match xs with
    | [.v a, .v b] => .nx ((st.set i (.v a)).set j (.v b))
    | _ => .no
  ok := fun md W st w => oc_ok w (as.ok md st) (fun C n h => ⟨fun D s q => h _ s fun G' H' d e s' hd => q G' _ H' d e s' hd⟩) fun xs h => by
    split
    · rename_i a b
      show Ex _ _ _ (.nx (sls K ((st.set i (.v a)).set j (.v b))))
      rw [sls_set, sls_set]
      exact Ex.par h
    · trivial
/-- the law's own call -/
def lawFn : Fn := ⟨1, false, fun as => match as with
  | [.v (.s xs)] => if xs.length ≤ 63 then .ok (.d (.bool true)) else .no
  | _ => .no⟩
theorem law_run {vs : List V} {H : Hp} {Q : VK} {E : XK} (s : XS K) (N : List Str) (h : SpA (α := List Int) (fun xs => xs.length ≤ 63) (fun xs => [pu (scR K xs)]) (fun _ => .ok (dB true)) vs H Q E)
    (hs : ∀ xs : List Int, xs.length ≤ 63 → runX s false (N.length - 1) [.v (.s xs)] = .ok (.d (.bool true))) : s.ts (.out E) { nx := fun _ H' => Q .non H', rt := Q } (L2.start N vs) H := by
  refine Fn.run (F := lawFn) s N ?_ ?_
  · obtain ⟨xs, G, L, hp, la, al, r⟩ := h
    have hf : lawFn.f [.v (.s xs)] = .ok (.d (.bool true)) := if_pos hp
    refine ⟨⟨[.v (.s xs)], rfl⟩, G, L, by show lawFn.f [.v (.s xs)] ≠ _; rw [hf]; exact fun z => (nomatch z), la, al, ?_⟩
    show ResP Q E G L (resOf K false (lawFn.f [.v (.s xs)]))
    rw [hf]
    exact r
  · intro as hm hn
    show runX s false (N.length - 1) as = _
    have hd : ∀ as : List Av, lawFn.f as ≠ .no → ∃ xs : List Int, as = [.v (.s xs)] ∧ xs.length ≤ 63 := by
      intro as hn
      unfold lawFn at hn
      simp only at hn
      split at hn
      · split at hn
        · exact ⟨_, rfl, by assumption⟩
        · exact absurd rfl hn
      · exact absurd rfl hn
    obtain ⟨xs, rfl, hl⟩ := hd as hn
    rw [hs xs hl]
    exact (if_pos hl).symm
end
end R

set_option Elab.async false
set_option linter.all false
set_option maxRecDepth 100000
set_option maxHeartbeats 2000000
/-! what the texts of layer R come to, as equations -/
namespace R
open PySem PySem.Spec PyProof.Rows L2 Z
section
variable {K : PySem.W.Frag} {st : List Sv} {a b c e : XE K} {i j : Int} {k : Nat} {as : XA K} {t u : XT K}
abbrev iv (n : Int) : Av := .v (.d (.int n))
theorem bind_ok {α β : Type} {x : α} {f : α → Rs β} : (Rs.ok x).bind f = f x := rfl
theorem bind_ex {α β : Type} {C : Addr} {n : Int} {f : α → Rs β} : (Rs.ex C n).bind f = .ex C n := rfl
theorem bind_no {α β : Type} {f : α → Rs β} : (Rs.no).bind f = .no := rfl
theorem oc_k {α : Type} {x : α} {f : α → Oc} : (Rs.ok x).oc st f = f x := rfl
theorem oc_x {α : Type} {C : Addr} {n : Int} {f : α → Oc} : (Rs.ex C n : Rs α).oc st f = .xc st C n := rfl
theorem oc_n {α : Type} {f : α → Oc} : (Rs.no : Rs α).oc st f = .no := rfl
theorem of_some {α : Type} {x : α} : Rs.of (some x) = .ok x := rfl
theorem of_none {α : Type} : Rs.of (none : Option α) = .no := rfl
theorem okV_ok {α : Type} {x : α} : okV (Rs.ok x) = some x := rfl
theorem okV_ex {α : Type} {C : Addr} {n : Int} : okV (Rs.ex C n : Rs α) = none := rfl
theorem okV_no {α : Type} : okV (Rs.no : Rs α) = none := rfl
theorem bOf_b {x : Bool} : bOf (.d (.bool x)) = some x := rfl
theorem iOf_i : iOf (.d (.int i)) = some i := rfl
theorem asL_l {ds : List PyData} : asL (.d (.list ds)) = some ds := rfl
theorem asS_l {ds : List PyData} : asS (.d (.list ds)) = some ds := rfl
theorem asS_s {xs : List Int} : asS (.s xs) = some (xs.map .int) := rfl
theorem lOf_l {ds : List PyData} : lOf (.d (.list ds)) = .ok ds := rfl
theorem var_ev : (XE.var k : XE K).ev st = match st[k]? with
  | some (.v a) => .ok a
  | _ => .no := rfl
theorem var_el : (XE.var k : XE K).el st = match st[k]? with
    | some (.v a) => asL a
    | some (.bl ds) => some ds
    | some (.ol ds) => some ds
    | _ => none := rfl
theorem var_es : (XE.var k : XE K).es st = match st[k]? with
    | some (.v a) => asS a
    | some (.bl ds) => some ds
    | _ => none := rfl
theorem int_ev : (XE.int i : XE K).ev st = .ok (.d (.int i)) := rfl
theorem bool_ev {x : Bool} : (XE.bool x : XE K).ev st = .ok (.d (.bool x)) := rfl
theorem non_ev : (XE.non : XE K).ev st = .ok (.d .none) := rfl
theorem str_ev {x : Str} : (XE.str x : XE K).ev st = .ok (.d (.str x)) := rfl
theorem av_f : a.av false st = (a.ev st).bind fun x => .ok (.v x) := rfl
theorem av_t : a.av true st = match a.el st with
    | some ds => .ok (.l ds)
    | none => match a.ev st with
      | .ex C n => .ex C n
      | _ => .no := rfl
theorem op_ev {o : O2 K} : (XE.op o a b).ev st = (a.av o.ka st).bind fun x => (b.av o.kb st).bind fun y => Rs.of (o.f x y) := rfl
theorem op_el {o : O2 K} : (XE.op o a b).el st = (okV ((XE.op o a b).ev st)).bind asL := rfl
theorem op_es {o : O2 K} : (XE.op o a b).es st = (okV ((XE.op o a b).ev st)).bind asS := rfl
theorem opN_ev {o : O2N K} : (XN.op o a b).ev st = (a.av o.ka st).bind fun x => (b.av o.kb st).bind fun y => Rs.of (o.f x y) := rfl
theorem e_ev {n : XN K} : n.e.ev st = (n.ev st).bind fun ds => .ok (.d (.list ds)) := rfl
theorem e_el {n : XN K} : n.e.el st = (okV (n.e.ev st)).bind asL := rfl
theorem e_es {n : XN K} : n.e.es st = (okV (n.e.ev st)).bind asS := rfl
theorem neg_ev : (XE.neg a).ev st = (a.ev st).bind fun x => match x with
    | .d (.int i) => .ok (.d (.int (-i)))
    | _ => .no := rfl
theorem bv_eq : a.bv st = (a.ev st).bind fun x => Rs.of (bOf x) := rfl
theorem iv_eq : a.iv st = (a.ev st).bind fun x => Rs.of (iOf x) := rfl
theorem andV_ev : (XE.andV a b).ev st = (a.bv st).bind fun x => match x with
    | true => (b.bv st).bind fun y => .ok (.d (.bool y))
    | false => .ok (.d (.bool false)) := rfl
theorem orV_ev : (XE.orV a b).ev st = (a.bv st).bind fun x => match x with
    | false => (b.bv st).bind fun y => .ok (.d (.bool y))
    | true => .ok (.d (.bool true)) := rfl
theorem notV_ev : (XE.notV a).ev st = (a.bv st).bind fun x => .ok (.d (.bool (!x))) := rfl
theorem ife_ev : (XE.ife t a b).ev st = (t.ev st).bind fun x => match x with
    | true => a.ev st
    | false => b.ev st := rfl
theorem ife_el : (XE.ife t a b).el st = (okV ((XE.ife t a b).ev st)).bind asL := rfl
theorem ife_es : (XE.ife t a b).es st = (okV ((XE.ife t a b).ev st)).bind asS := rfl
theorem chain_ev {o o' : O2 K} : (XE.chain o o' a b c).ev st = (a.av o.ka st).bind fun x => (b.av o.kb st).bind fun y => match (o.f x y).bind bOf with
    | some false => .ok (.d (.bool false))
    | some true => match okV (c.av o'.kb st) with
      | some w => Rs.of (((o'.f y w).bind bOf).map fun k => .d (.bool k))
      | none => .no
    | none => .no := rfl
theorem inK_ev {neg : Bool} {p : Addr} {ss : List Str} {h : ∀ H : Hp, SqT K H p (ss.map V.str)} : (XE.inK neg a p ss h).ev st = (a.ev st).bind fun x => match x with
    | .d (.str s) => .ok (.d (.bool (if neg then !decide (s ∈ ss) else decide (s ∈ ss))))
    | _ => .no := rfl
theorem setfld_ev {C : Addr} {c' : Cls K C} {f : Str} {hn : NoAttr K C f} : (XS.setfld k C c' f hn e).ev st = match st[k]? with
    | some (.oi C' a fs) => if C' = C ∧ (fs.lookup f).isNone = true ∧ fs.length < 1000 then (e.ev st).oc st fun v => match v with
      | .d d => .nx (st.set k (.oi C a (fs ++ [(f, d)])))
      | _ => .no else .no
    | _ => .no := rfl
theorem tup_ev : (XE.tup as).ev st = (as.dev st).bind fun ds => .ok (.d (.tuple ds)) := rfl
theorem dev_eq : as.dev st = (as.ev st).bind fun xs => match avD xs with
  | some ds => if ds.length ≤ 1000 then .ok ds else .no
  | none => .no := rfl
theorem avD_nil : avD [] = some [] := rfl
theorem avD_cons {x : PyData} {r : List Av} : avD (.v (.d x) :: r) = (avD r).map (x :: ·) := rfl
theorem lst_ev : (XN.lst as).ev st = as.dev st := rfl
theorem anil_ev : (XA.nil : XA K).ev st = .ok [] := rfl
theorem acons_ev {q : Bool} : (XA.cons q e as).ev st = (e.av q st).bind fun x => (as.ev st).bind fun xs => .ok (x :: xs) := rfl
theorem bi_ev {r : Bi K} : (XE.bi r as).ev st = (as.ev st).bind fun xs => Rs.of (r.f xs) := rfl
theorem biN_ev {r : BiN K} : (XN.bi r as).ev st = (as.ev st).bind fun xs => Rs.of (r.f xs) := rfl
theorem call_ev {F : Fn} {h : F.own = false} : (XE.call F h as).ev st = (as.ev st).bind fun xs => if xs.length = F.m then F.f xs else .no := rfl
theorem call_el {F : Fn} {h : F.own = false} : (XE.call F h as).el st = (okV ((XE.call F h as).ev st)).bind asL := rfl
theorem call_es {F : Fn} {h : F.own = false} : (XE.call F h as).es st = (okV ((XE.call F h as).ev st)).bind asS := rfl
theorem callN_ev {F : Fn} {h : F.own = true} : (XN.call F h as : XN K).ev st = (as.ev st).bind fun xs => if xs.length = F.m then (F.f xs).bind lOf else .no := rfl
theorem meth_ev {C : Addr} {m : Str} {F : Fn} {h : F.own = false} : (XE.meth C m F h e as).ev st = (e.ev st).bind fun v => (instOf C m v).bind fun fs => (as.ev st).bind fun xs => if xs.length + 1 = F.m then F.f (.v (.i C fs) :: xs) else .no := rfl
theorem meth_el {C : Addr} {m : Str} {F : Fn} {h : F.own = false} : (XE.meth C m F h e as).el st = (okV ((XE.meth C m F h e as).ev st)).bind asL := rfl
theorem meth_es {C : Addr} {m : Str} {F : Fn} {h : F.own = false} : (XE.meth C m F h e as).es st = (okV ((XE.meth C m F h e as).ev st)).bind asS := rfl
theorem methN_ev {C : Addr} {m : Str} {F : Fn} {h : F.own = true} : (XN.meth C m F h e as).ev st = (e.ev st).bind fun v => (instOf C m v).bind fun fs => (as.ev st).bind fun xs => if xs.length + 1 = F.m then (F.f (.v (.i C fs) :: xs)).bind lOf else .no := rfl
theorem make_ev {C : Addr} {F : FnI} : (XE.make C F as).ev st = (as.ev st).bind fun xs => if xs.length = F.m then (F.f xs).bind fun fs => .ok (.i C fs) else .no := rfl
theorem fld_ev {C : Addr} {c' : Cls K C} {f : Str} {hn : NoAttr K C f} : (XE.fld C c' f hn e).ev st = (e.ev st).bind fun x => match x with
    | .i C' fs => if C' = C then Rs.of ((fs.lookup f).map Vl.d) else .no
    | _ => .no := rfl
theorem fld_el {C : Addr} {c' : Cls K C} {f : Str} {hn : NoAttr K C f} : (XE.fld C c' f hn e).el st = (okV ((XE.fld C c' f hn e).ev st)).bind asL := rfl
theorem fld_es {C : Addr} {c' : Cls K C} {f : Str} {hn : NoAttr K C f} : (XE.fld C c' f hn e).es st = (okV ((XE.fld C c' f hn e).ev st)).bind asS := rfl
theorem test_ev : (XT.test a).ev st = a.bv st := rfl
theorem B_ev : (XT.B a).ev st = a.bv st := rfl
theorem and_ev : (XT.and t u).ev st = (t.ev st).bind fun x => match x with
    | true => u.ev st
    | false => .ok false := rfl
theorem or_ev : (XT.or t u).ev st = (t.ev st).bind fun x => match x with
    | false => u.ev st
    | true => .ok true := rfl
theorem not_ev : (XT.not t).ev st = (t.ev st).bind fun x => .ok (!x) := rfl
theorem truthL_ev : (XT.truthL a).ev st = Rs.of ((a.el st).map fun ds => !ds.isEmpty) := rfl
theorem ifeT_ev {v : XT K} : (XT.ife t u v).ev st = (t.ev st).bind fun x => match x with
    | true => u.ev st
    | false => v.ev st := rfl
theorem yes_ev : (XT.yes : XT K).ev st = .ok true := rfl
theorem onone_ev : (XO.none : XO K).ev st = .ok Option.none := rfl
theorem osome_ev : (XO.some a).ev st = (a.iv st).bind fun n => .ok (Option.some n) := rfl
theorem sl_ev {lo hi : XO K} : (XN.sl a lo hi).ev st = match a.el st, okV (lo.ev st), okV (hi.ev st) with
    | some ds, some l, some h => .ok (cutD ds l h)
    | _, _, _ => .no := rfl
theorem slS_ev {lo hi : XO K} : (XN.slS a lo hi).ev st = match okV (a.ev st), okV (lo.ev st), okV (hi.ev st) with
    | some (.s xs), some l, some h => .ok (cutD (xs.map .int) l h)
    | _, _, _ => .no := rfl
theorem lend_ev {n : XN K} : (XN.lend k n).ev st = match st[k]? with
    | some (.ol ds) => (match n.ev (st.set k (.bl ds)) with
      | .ok r => .ok r
      | _ => .no)
    | _ => n.ev st := rfl
theorem blank_ev {n : XN K} : (XN.blank k n).ev st = match st[k]? with
    | some (.v _) => (match n.ev (st.set k .x) with
      | .ok r => .ok r
      | _ => .no)
    | _ => n.ev st := rfl
theorem ilist_ev : (XI.list a).ev st = match a.es st with
    | some ds => .ok ds
    | none => match a.ev st with
      | .ex C n => .ex C n
      | _ => .no := rfl
theorem irng1_ev : (XI.range1 as).ev st = (as.ev st).bind fun xs => match avI1 xs with
    | some n => if n.natAbs < 4611686018427387904 then .ok (irange 0 n.toNat) else .no
    | none => .no := rfl
theorem irng2_ev : (XI.range2 as).ev st = (as.ev st).bind fun xs => match avI2 xs with
    | some n => if n.1.natAbs < 4611686018427387904 ∧ n.2.natAbs < 4611686018427387904 then .ok (irange n.1 (n.2 - n.1).toNat) else .no
    | none => .no := rfl
theorem avI1_i : avI1 [.v (.d (.int i))] = some i := rfl
theorem avI2_i : avI2 [.v (.d (.int i)), .v (.d (.int j))] = some (i, j) := rfl
theorem ienum_ev : (XI.enum a).ev st = match a.es st with
    | some ds => .ok (enumD ds)
    | none => .no := rfl
theorem izip_ev : (XI.zip a b).ev st = match a.es st, b.es st with
    | some ds, some es => .ok (zipD ds es)
    | _, _ => .no := rfl
theorem gname_ev {d : PyData} : (XG.name k : XG K).ev d st = if k < st.length then some (st.set k (.v (.d d))) else none := rfl
theorem gnil_ev : (XGs.nil : XGs K).ev [] st = some st := rfl
theorem gcons_ev {g : XG K} {r : XGs K} {d : PyData} {ds : List PyData} : (XGs.cons g r).ev (d :: ds) st = (g.ev d st).bind fun st1 => r.ev ds st1 := rfl
theorem gtup_ev {r : XGs K} {ds : List PyData} : (XG.tup r).ev (.tuple ds) st = r.ev ds st := rfl
theorem glst_ev {r : XGs K} {ds : List PyData} : (XG.lst r).ev (.list ds) st = r.ev ds st := rfl
theorem lc_ev {it : XI K} {g : XG K} {vs : List Nat} : (XN.lc it g t e vs).ev st = (it.ev st).bind fun ds => if ds.length ≤ 100000 ∧ allXb st vs = true ∧ (g.T.all fun i => decide (i ∈ vs)) = true then Rs.of (lcL g t e st ds) else .no := rfl
section
variable {s s' : XS K}
theorem nx_ev : (XS.nx : XS K).ev st = .nx st := rfl
theorem brk_ev : (XS.brk : XS K).ev st = .bk st := rfl
theorem cnt_ev : (XS.cnt : XS K).ev st = .ct st := rfl
theorem seq_ev : (XS.seq s s').ev st = match s.ev st with
    | .nx st' => s'.ev st'
    | o => o := rfl
theorem set_ev : (XS.set k e).ev st = (e.ev st).oc st fun a => .nx (st.set k (.v a)) := rfl
theorem setN_ev {n : XN K} : (XS.setN k n).ev st = (n.ev st).oc st fun ds => if k < st.length then .nx (st.set k (.ol ds)) else .no := rfl
theorem asg_ev {g : XG K} : (XS.asg g e).ev st = (e.ev st).oc st fun a => match a with
    | .d d => match g.ev d st with
      | some st' => .nx st'
      | none => .no
    | _ => .no := rfl
theorem par_ev {m : Nat} : (XS.par k m as).ev st = (as.ev st).oc st fun xs => match xs with
    | [.v a, .v b] => .nx ((st.set k (.v a)).set m (.v b))
    | _ => .no := rfl
theorem aug_ev {o : O2 K} {ho : o.ka = false ∧ o.kb = false} : (XS.aug k o ho e).ev st = match st[k]? with
    | some (.v a) => match okV (e.ev st) with
      | some b => match o.f (.v a) (.v b) with
        | some c => .nx (st.set k (.v c))
        | none => .no
      | none => .no
    | _ => .no := rfl
theorem seti_ev : (XS.seti k a e).ev st = match st[k]? with
    | some (.ol ds) => (e.ev st).oc st fun x => match x with
      | .d d => match okV (a.iv st) with
        | some n => match ixN ds.length n with
          | some j => .nx (st.set k (.ol (ds.set j d)))
          | none => .no
        | none => .no
      | _ => .no
    | _ => .no := rfl
theorem app_ev : (XS.app k e).ev st = match st[k]? with
    | some (.ol ds) => (e.ev st).oc st fun a => match a with
      | .d d => if ds.length < 1000000 then .nx (st.set k (.ol (ds ++ [d]))) else .no
      | _ => .no
    | _ => .no := rfl
theorem ite_ev : (XS.ite t s s').ev st = (t.ev st).oc st fun x => match x with
    | true => s.ev st
    | false => s'.ev st := rfl
theorem ret_ev : (XS.ret e).ev st = (e.ev st).oc st .rt := rfl
theorem retN_ev : (XS.retN : XS K).ev st = .rt (.d .none) := rfl
theorem retO_ev {n : XN K} : (XS.retO n).ev st = (n.ev st).oc st .ro := rfl
theorem retV_ev : (XS.retV k : XS K).ev st = match st[k]? with
    | some (.ol ds) => .ro ds
    | _ => .no := rfl
theorem drop_ev : (XS.drop e).ev st = (e.ev st).oc st fun _ => .nx st := rfl
theorem frz_ev : (XS.frz k s).ev st = s.ev (R.frz k st) := rfl
theorem for_ev {it : XI K} {g : XG K} : (XS.for_ it g s).ev st = (it.ev st).oc st fun ds => lp g s ds st := rfl
theorem lp_nil {g : XG K} : lp g s [] st = .nx st := rfl
theorem raise_ev {C : Addr} {hC : OexC K C} {hn : PySem.W.findIn K (.ref C) "at" = some none} : (XS.raise C hC hn as).ev st = (as.ev st).oc st fun xs => match avI1 xs with
    | some n => .xc st C n
    | none => .no := rfl
theorem try_ev {i : Nat} {cW : Addr} {h : XH K i} : (XS.try_ i cW s h).ev st = match s.ev st with
    | .xc st1 C n => if PySem.W.exmOne K (.ref C) (.ref cW) = some true then clr i (h.ev C n st1) else .no
    | o => o := rfl
theorem lp_cons {g : XG K} {d : PyData} {ds : List PyData} : lp g s (d :: ds) st = match g.ev d st with
    | none => .no
    | some st1 => match s.ev st1 with
      | .nx st2 => lp g s ds st2
      | .ct st2 => lp g s ds st2
      | .bk st2 => .nx st2
      | o => o := rfl
end
/-! the operators -/
theorem add_ka : (O2.add : O2 K).ka = false := rfl
theorem add_kb : (O2.add : O2 K).kb = false := rfl
theorem add_f : (O2.add : O2 K).f (iv i) (iv j) = some (.d (.int (i + j))) := rfl
theorem sub_ka : (O2.sub : O2 K).ka = false := rfl
theorem sub_kb : (O2.sub : O2 K).kb = false := rfl
theorem sub_f : (O2.sub : O2 K).f (iv i) (iv j) = some (.d (.int (i - j))) := rfl
theorem band_ka : (O2.band : O2 K).ka = false := rfl
theorem band_kb : (O2.band : O2 K).kb = false := rfl
theorem band_f : (O2.band : O2 K).f (iv i) (iv j) = some (.d (.int (Builtin.bitAnd i j))) := rfl
theorem lt_ka : (O2.lt : O2 K).ka = false := rfl
theorem lt_kb : (O2.lt : O2 K).kb = false := rfl
theorem lt_f : (O2.lt : O2 K).f (iv i) (iv j) = some (.d (.bool (decide (i < j)))) := rfl
theorem le_ka : (O2.le : O2 K).ka = false := rfl
theorem le_kb : (O2.le : O2 K).kb = false := rfl
theorem le_f : (O2.le : O2 K).f (iv i) (iv j) = some (.d (.bool (decide (i ≤ j)))) := rfl
theorem gt_ka : (O2.gt : O2 K).ka = false := rfl
theorem gt_kb : (O2.gt : O2 K).kb = false := rfl
theorem gt_f : (O2.gt : O2 K).f (iv i) (iv j) = some (.d (.bool (decide (j < i)))) := rfl
theorem ge_ka : (O2.ge : O2 K).ka = false := rfl
theorem ge_kb : (O2.ge : O2 K).kb = false := rfl
theorem ge_f : (O2.ge : O2 K).f (iv i) (iv j) = some (.d (.bool (decide (j ≤ i)))) := rfl
theorem mul_ka : (O2.mul : O2 K).ka = false := rfl
theorem mul_kb : (O2.mul : O2 K).kb = false := rfl
theorem mul_f (h : CMulU i j) : (O2.mul : O2 K).f (iv i) (iv j) = some (.d (.int (i * j))) := if_pos h
theorem div_ka : (O2.div : O2 K).ka = false := rfl
theorem div_kb : (O2.div : O2 K).kb = false := rfl
theorem div_f (h : CDivW i j) : (O2.div : O2 K).f (iv i) (iv j) = some (.d (.int (i / j))) := if_pos h
theorem divU_ka : (O2.divU : O2 K).ka = false := rfl
theorem divU_kb : (O2.divU : O2 K).kb = false := rfl
theorem divU_f (h : CDivU i j) : (O2.divU : O2 K).f (iv i) (iv j) = some (.d (.int (i.fdiv j))) := if_pos h
theorem mod_ka : (O2.mod : O2 K).ka = false := rfl
theorem mod_kb : (O2.mod : O2 K).kb = false := rfl
theorem mod_f (h : 0 < j) : (O2.mod : O2 K).f (iv i) (iv j) = some (.d (.int (i % j))) := if_pos h
theorem pow_ka : (O2.pow : O2 K).ka = false := rfl
theorem pow_kb : (O2.pow : O2 K).kb = false := rfl
theorem pow_f (h : CPow i j) : (O2.pow : O2 K).f (iv i) (iv j) = some (.d (.int (i ^ j.toNat))) := if_pos h
theorem shl_ka : (O2.shl : O2 K).ka = false := rfl
theorem shl_kb : (O2.shl : O2 K).kb = false := rfl
theorem shl_f (h : CPow i j) : (O2.shl : O2 K).f (iv i) (iv j) = some (.d (.int (i * 2 ^ j.toNat))) := if_pos h
theorem shr_ka : (O2.shr : O2 K).ka = false := rfl
theorem shr_kb : (O2.shr : O2 K).kb = false := rfl
theorem shr_f (h : 0 ≤ j) : (O2.shr : O2 K).f (iv i) (iv j) = some (.d (.int (i / 2 ^ j.toNat))) := if_pos h
theorem eq_ka : (O2.eq : O2 K).ka = false := rfl
theorem eq_kb : (O2.eq : O2 K).kb = false := rfl
theorem ne_ka : (O2.ne : O2 K).ka = false := rfl
theorem ne_kb : (O2.ne : O2 K).kb = false := rfl
theorem eqD_ka : (O2.eqD : O2 K).ka = false := rfl
theorem eqD_kb : (O2.eqD : O2 K).kb = false := rfl
theorem neD_ka : (O2.neD : O2 K).ka = false := rfl
theorem neD_kb : (O2.neD : O2 K).kb = false := rfl
theorem isN_ka : (O2.isN : O2 K).ka = false := rfl
theorem isN_kb : (O2.isN : O2 K).kb = false := rfl
theorem notN_ka : (O2.notN : O2 K).ka = false := rfl
theorem notN_kb : (O2.notN : O2 K).kb = false := rfl
theorem isB_ka : (O2.isB : O2 K).ka = false := rfl
theorem isB_kb : (O2.isB : O2 K).kb = false := rfl
theorem notB_ka : (O2.notB : O2 K).ka = false := rfl
theorem notB_kb : (O2.notB : O2 K).kb = false := rfl
theorem ixS_ka : (O2.ixS : O2 K).ka = false := rfl
theorem ixS_kb : (O2.ixS : O2 K).kb = false := rfl
theorem ixT_ka : (O2.ixT : O2 K).ka = false := rfl
theorem ixT_kb : (O2.ixT : O2 K).kb = false := rfl
theorem neL_ka : (O2.neL : O2 K).ka = true := rfl
theorem neL_kb : (O2.neL : O2 K).kb = false := rfl
theorem ixL_ka : (O2.ixL : O2 K).ka = true := rfl
theorem ixL_kb : (O2.ixL : O2 K).kb = false := rfl
theorem inL_ka : (O2.inL : O2 K).ka = false := rfl
theorem inL_kb : (O2.inL : O2 K).kb = true := rfl
theorem notInL_ka : (O2.notInL : O2 K).ka = false := rfl
theorem notInL_kb : (O2.notInL : O2 K).kb = true := rfl
theorem cat_ka : (O2N.cat : O2N K).ka = true := rfl
theorem cat_kb : (O2N.cat : O2N K).kb = true := rfl
theorem rep_ka : (O2N.rep : O2N K).ka = true := rfl
theorem rep_kb : (O2N.rep : O2N K).kb = false := rfl
theorem eq_i : (O2.eq : O2 K).f (iv i) (iv j) = some (.d (.bool (decide (i = j)))) := rfl
theorem eq_s {x y : Str} : (O2.eq : O2 K).f (.v (.d (.str x))) (.v (.d (.str y))) = some (.d (.bool (decide (x = y)))) := rfl
theorem ne_i : (O2.ne : O2 K).f (iv i) (iv j) = some (.d (.bool (!decide (i = j)))) := rfl
theorem ne_s {x y : Str} : (O2.ne : O2 K).f (.v (.d (.str x))) (.v (.d (.str y))) = some (.d (.bool (!decide (x = y)))) := rfl
theorem eqD_f {x y : PyData} (h : SeqAt.shaped x = true ∧ SeqAt.shaped y = true) : (O2.eqD : O2 K).f (.v (.d x)) (.v (.d y)) = some (.d (.bool (PyData.eqv x y))) := if_pos h
theorem neL_f {ds : List PyData} {y : PyData} (h : SeqAt.shaped (.list ds) = true ∧ SeqAt.shaped y = true) : (O2.neL : O2 K).f (.l ds) (.v (.d y)) = some (.d (.bool (!PyData.eqv (.list ds) y))) := if_pos h
theorem neD_f {x y : PyData} (h : SeqAt.shaped x = true ∧ SeqAt.shaped y = true) : (O2.neD : O2 K).f (.v (.d x)) (.v (.d y)) = some (.d (.bool (!PyData.eqv x y))) := if_pos h
theorem isB_f {x y : Bool} : (O2.isB : O2 K).f (.v (.d (.bool x))) (.v (.d (.bool y))) = some (.d (.bool (decide (x = y)))) := rfl
theorem notB_f {x y : Bool} : (O2.notB : O2 K).f (.v (.d (.bool x))) (.v (.d (.bool y))) = some (.d (.bool (!decide (x = y)))) := rfl
theorem repr_f {x : PyData} (h : reprOk x = true) : (Bi.repr : Bi K).f [.v (.d x)] = some (.d (.str x.shown)) := if_pos h
theorem isN_f {x : PyData} : (O2.isN : O2 K).f (.v (.d x)) (.v (.d .none)) = some (.d (.bool (isNone x))) := rfl
theorem notN_f {x : PyData} : (O2.notN : O2 K).f (.v (.d x)) (.v (.d .none)) = some (.d (.bool (!isNone x))) := rfl
theorem ixL_f {ds : List PyData} : (O2.ixL : O2 K).f (.l ds) (iv i) = (atI ds i).map Vl.d := rfl
theorem ixT_f {ds : List PyData} : (O2.ixT : O2 K).f (.v (.d (.tuple ds))) (iv i) = (atI ds i).map Vl.d := rfl
theorem ixS_f {xs : List Int} : (O2.ixS : O2 K).f (.v (.s xs)) (iv i) = if 0 ≤ i then (xs[i.toNat]?).map fun n => .d (.int n) else none := rfl
theorem cat_f {ds es : List PyData} (h : ds.length + es.length ≤ 1000000) : (O2N.cat : O2N K).f (.l ds) (.l es) = some (ds ++ es) := if_pos h
theorem len_f {ds : List PyData} : (Bi.len : Bi K).f [.l ds] = some (.d (.int ds.length)) := rfl
theorem lenS_f {xs : List Int} : (Bi.len : Bi K).f [.v (.s xs)] = some (.d (.int xs.length)) := rfl
theorem abs_f : (Bi.abs : Bi K).f [iv i] = some (.d (.int (if i < 0 then -i else i))) := rfl
theorem min2_f : (Bi.min2 : Bi K).f [iv i, iv j] = some (.d (.int (if j < i then j else i))) := rfl
theorem max2_f : (Bi.max2 : Bi K).f [iv i, iv j] = some (.d (.int (if j > i then j else i))) := rfl
theorem int_f : (Bi.int : Bi K).f [iv i] = some (.d (.int i)) := rfl
theorem intB_f {x : Bool} : (Bi.int : Bi K).f [.v (.d (.bool x))] = some (.d (.int (if x then 1 else 0))) := rfl
theorem gcd_f : (Bi.gcd : Bi K).f [iv i, iv j] = some (.d (.int ((Nat.gcd i.natAbs j.natAbs : Nat) : Int))) := rfl
theorem lcm_f (h : i.natAbs.log2 < 9000 ∧ j.natAbs.log2 < 9000) : (Bi.lcm : Bi K).f [iv i, iv j] = some (.d (.int ((Nat.lcm i.natAbs j.natAbs : Nat) : Int))) := if_pos h
theorem sum_f {ns : List Int} : (Bi.sum : Bi K).f [.l (ns.map .int)] = some (.d (.int ns.sum)) := by show (intsOf _).map _ = _; rw [intsOf_map]; rfl
theorem any_f {ns : List Bool} : (Bi.any : Bi K).f [.l (ns.map .bool)] = some (.d (.bool (ns.any id))) := by show (boolsOf _).map _ = _; rw [boolsOf_map]; rfl
theorem all_f {ns : List Bool} : (Bi.all : Bi K).f [.l (ns.map .bool)] = some (.d (.bool (ns.all id))) := by show (boolsOf _).map _ = _; rw [boolsOf_map]; rfl
theorem listN_f {ds : List PyData} : (BiN.list : BiN K).f [.l ds] = some ds := rfl
theorem runX_eq {s : XS K} {o : Bool} {xs : List Av} : runX s o k xs = (s.ev (start xs k)).res o := rfl
theorem res_rt {v : Vl} : (Oc.rt v).res false = .ok v := rfl
theorem res_ro {ds : List PyData} : (Oc.ro ds).res true = .ok (.d (.list ds)) := rfl
theorem res_nx : (Oc.nx st).res false = .ok (.d .none) := rfl
theorem res_xc {C : Addr} {n : Int} {o : Bool} : (Oc.xc st C n).res o = .ex C n := rfl
theorem at0 {α : Type} {x : α} {r : List α} : atI (x :: r) 0 = some x := by
  have : (0 : Int) < (((x :: r).length : Nat) : Int) := by simp only [List.length_cons]; omega
  unfold atI ixN
  rw [if_pos (by decide), if_pos this]
  rfl
theorem at1 {α : Type} {x y : α} {r : List α} : atI (x :: y :: r) 1 = some y := by
  have : (1 : Int) < (((x :: y :: r).length : Nat) : Int) := by simp only [List.length_cons]; omega
  unfold atI ixN
  rw [if_pos (by decide), if_pos this]
  rfl
theorem at2 {α : Type} {x y z : α} {r : List α} : atI (x :: y :: z :: r) 2 = some z := by
  have : (2 : Int) < (((x :: y :: z :: r).length : Nat) : Int) := by simp only [List.length_cons]; omega
  unfold atI ixN
  rw [if_pos (by decide), if_pos this]
  rfl
/-- a loop that goes through: what holds of the state, by what was taken -/
theorem lp_ex {α σ : Type} {g : XG K} {s : XS K} {en : α → PyData} (E : σ → List Sv) (P : List α → σ → Prop) {xs : List α} {x0 : σ} (h0 : P [] x0)
    (h : ∀ pre x post y, xs = pre ++ x :: post → P pre y → ∃ y', P (pre ++ [x]) y' ∧ ∃ st1, g.ev (en x) (E y) = some st1 ∧ (s.ev st1 = .nx (E y') ∨ s.ev st1 = .ct (E y'))) : ∃ y, P xs y ∧ lp g s (xs.map en) (E x0) = .nx (E y) := by
  have key : ∀ (post pre : List α) (y : σ), xs = pre ++ post → P pre y → ∃ y', P xs y' ∧ lp g s (post.map en) (E y) = .nx (E y') := by
    intro post
    induction post with
    | nil => exact fun pre y e hp => ⟨y, by rw [e, List.append_nil]; exact hp, rfl⟩
    | cons x post ih =>
      intro pre y e hp
      obtain ⟨y1, p1, st1, h2, h3⟩ := h pre x post y e hp
      obtain ⟨y', p', l'⟩ := ih (pre ++ [x]) y1 (by rw [e]; simp) p1
      refine ⟨y', p', ?_⟩
      rw [List.map_cons, lp_cons, h2]
      rcases h3 with h3 | h3
      · simp only [h3]; exact l'
      · simp only [h3]; exact l'
  exact key xs [] x0 rfl h0
theorem div_lit {i j : Int} (h : 0 < j ∧ j.natAbs < 18446744073709551616) : CDivW i j := ⟨h.1, by
  by_cases z : j.natAbs = 0
  · rw [z]; decide
  · exact Nat.lt_trans ((Nat.log2_lt z).mpr (show j.natAbs < 2 ^ 64 by have := h.2; omega)) (by decide)⟩
theorem mul_r {i j : Int} (h : j.natAbs < 18446744073709551616) : CMulU i j := .inr (.inl h)
theorem mul_l {i j : Int} (h : i.natAbs < 18446744073709551616) : CMulU i j := .inl h
theorem rng_if {α : Type} {n : Int} {x y : α} (h : n.natAbs < 4611686018427387904) : (if n.natAbs < 4611686018427387904 then x else y) = x := if_pos h
theorem runX_of {s : XS K} {xs : List Av} {v : Vl} (h : s.ev (R.start xs k) = .rt v) : runX s false k xs = .ok v := by rw [runX_eq, h]; rfl
theorem runX_ro {s : XS K} {xs : List Av} {ds : List PyData} (h : s.ev (R.start xs k) = .ro ds) : runX s true k xs = .ok (.d (.list ds)) := by rw [runX_eq, h]; rfl
theorem run_nx {s s' : XS K} {st1 : List Sv} {o : Oc} (h : s.ev st = .nx st1) (h2 : s'.ev st1 = o) : (XS.seq s s').ev st = o := by
  rw [seq_ev, h]
  exact h2
theorem for_nx {it : XI K} {g : XG K} {s : XS K} {ds : List PyData} {o : Oc} (h : it.ev st = .ok ds) (h2 : lp g s ds st = o) : (XS.for_ it g s).ev st = o := by
  rw [for_ev, h]
  exact h2
theorem ite_t {s s' : XS K} {o : Oc} (h : t.ev st = .ok true) (h2 : s.ev st = o) : (XS.ite t s s').ev st = o := by
  rw [ite_ev, h]
  exact h2
theorem ite_f {s s' : XS K} {o : Oc} (h : t.ev st = .ok false) (h2 : s'.ev st = o) : (XS.ite t s s').ev st = o := by
  rw [ite_ev, h]
  exact h2
/-- a comprehension, element by element -/
theorem lcL_nil {g : XG K} : lcL g t e st [] = some [] := rfl
theorem lcL_map {α : Type} {g : XG K} {en f : α → PyData} {xs : List α} (h : ∀ x ∈ xs, lcOne g t e st (en x) = some (some (f x))) : lcL g t e st (xs.map en) = some (xs.map f) := by
  induction xs with
  | nil => rfl
  | cons x xs ih =>
    show (lcOne g t e st (en x)).bind _ = _
    rw [h x (List.mem_cons_self ..)]
    show (lcL g t e st (xs.map en)).map _ = _
    rw [ih fun y hy => h y (List.mem_cons_of_mem _ hy)]
    rfl
theorem lcL_filter {α : Type} {g : XG K} {en f : α → PyData} {p : α → Bool} {xs : List α} (h : ∀ x ∈ xs, lcOne g t e st (en x) = some (if p x = true then some (f x) else none)) : lcL g t e st (xs.map en) = some ((xs.filter p).map f) := by
  induction xs with
  | nil => rfl
  | cons x xs ih =>
    show (lcOne g t e st (en x)).bind _ = _
    rw [h x (List.mem_cons_self ..)]
    show (lcL g t e st (xs.map en)).map _ = _
    rw [ih fun y hy => h y (List.mem_cons_of_mem _ hy), List.filter_cons]
    by_cases hp : p x = true
    · rw [if_pos hp, if_pos hp]; rfl
    · rw [if_neg hp, if_neg hp]; rfl
theorem lcOne_eq {g : XG K} {d : PyData} : lcOne g t e st d = (g.ev d st).bind fun st1 => match okV (t.ev st1) with
  | some false => some none
  | some true => match okV (e.ev st1) with
    | some (.d x) => some (some x)
    | _ => none
  | none => none := rfl
/-- a loop that goes through: the state by what was taken -/
theorem lp_inv {α σ : Type} {g : XG K} {s : XS K} {en : α → PyData} (E : σ → List Sv) (f : σ → α → σ) (P : σ → Prop) {xs : List α} {x0 : σ} (h0 : P x0)
    (h : ∀ y x, P y → x ∈ xs → P (f y x) ∧ ∃ st1, g.ev (en x) (E y) = some st1 ∧ (s.ev st1 = .nx (E (f y x)) ∨ s.ev st1 = .ct (E (f y x)))) : lp g s (xs.map en) (E x0) = .nx (E (xs.foldl f x0)) ∧ P (xs.foldl f x0) := by
  induction xs generalizing x0 with
  | nil => exact ⟨rfl, h0⟩
  | cons x xs ih =>
    obtain ⟨h1, st1, h2, h3⟩ := h x0 x h0 (List.mem_cons_self ..)
    have i := ih h1 fun y z hy hz => h y z hy (List.mem_cons_of_mem _ hz)
    refine ⟨?_, i.2⟩
    rw [List.map_cons, lp_cons, h2]
    rcases h3 with h3 | h3
    · simp only [h3]; exact i.1
    · simp only [h3]; exact i.1
end
end R

set_option Elab.async false
set_option linter.all false
set_option maxRecDepth 100000
set_option maxHeartbeats 4000000
namespace Q
open PySem PySem.Spec PyProof.Rows L2 Z R
def topS (i : Nat) : Stmt := PySem.Challenge.pw_trunkweb_k57_loads_gains_and_fit_multipl.main.body.getD i (.Pass ⟨0, 0, 0, 0⟩)
abbrev s_WebError___init__ : Stmt := inClass (topS 2) 0
abbrev N_WebError___init__ : List Str := ["self", "at"]
theorem sc_WebError___init__ : FnScope ["self", "at"] ["self", "at"] (defScope s_WebError___init__) := ⟨rfl, rfl, rfl, by decide +kernel, rfl, by decide +kernel, by decide +kernel⟩
abbrev s_fraction : Stmt := topS 9
abbrev N_fraction : List Str := ["numerator", "denominator", "common"]
theorem sc_fraction : FnScope ["numerator", "denominator", "common"] ["numerator", "denominator"] (defScope s_fraction) := ⟨rfl, rfl, rfl, by decide +kernel, rfl, by decide +kernel, by decide +kernel⟩
abbrev s_scaled : Stmt := topS 10
abbrev N_scaled : List Str := ["fractions", "scale", "pair"]
theorem sc_scaled : FnScope ["fractions", "scale", "pair"] ["fractions"] (defScope s_scaled) := ⟨rfl, rfl, rfl, by decide +kernel, rfl, by decide +kernel, by decide +kernel⟩
abbrev s_Program___init__ : Stmt := inClass (topS 15) 0
abbrev N_Program___init__ : List Str := ["self", "prices", "rows", "at", "numbers", "relation", "_", "bound"]
theorem sc_Program___init__ : FnScope ["self", "prices", "rows", "at", "numbers", "relation", "_", "bound"] ["self", "prices", "rows"] (defScope s_Program___init__) := ⟨rfl, rfl, rfl, by decide +kernel, rfl, by decide +kernel, by decide +kernel⟩
abbrev s_Program_count : Stmt := inClass (topS 15) 1
abbrev N_Program_count : List Str := ["self"]
theorem sc_Program_count : FnScope ["self"] ["self"] (defScope s_Program_count) := ⟨rfl, rfl, rfl, by decide +kernel, rfl, by decide +kernel, by decide +kernel⟩
abbrev s_Program_rows : Stmt := inClass (topS 15) 3
abbrev N_Program_rows : List Str := ["self", "numbers", "relation", "bound"]
theorem sc_Program_rows : FnScope ["self", "numbers", "relation", "bound"] ["self"] (defScope s_Program_rows) := ⟨rfl, rfl, rfl, by decide +kernel, rfl, by decide +kernel, by decide +kernel⟩
abbrev s_dot : Stmt := topS 16
abbrev N_dot : List Str := ["numbers", "others", "number", "other"]
theorem sc_dot : FnScope ["numbers", "others", "number", "other"] ["numbers", "others"] (defScope s_dot) := ⟨rfl, rfl, rfl, by decide +kernel, rfl, by decide +kernel, by decide +kernel⟩
abbrev s_is_fit : Stmt := topS 18
abbrev N_is_fit : List Str := ["relation", "multiplier"]
theorem sc_is_fit : FnScope ["relation", "multiplier"] ["relation", "multiplier"] (defScope s_is_fit) := ⟨rfl, rfl, rfl, by decide +kernel, rfl, by decide +kernel, by decide +kernel⟩
abbrev s_are_fit : Stmt := topS 19
abbrev N_are_fit : List Str := ["program", "multipliers", "rows", "row", "multiplier"]
theorem sc_are_fit : FnScope ["program", "multipliers", "rows", "row", "multiplier"] ["program", "multipliers"] (defScope s_are_fit) := ⟨rfl, rfl, rfl, by decide +kernel, rfl, by decide +kernel, by decide +kernel⟩
abbrev s_scaled_for : Stmt := topS 20
abbrev N_scaled_for : List Str := ["rows", "multipliers"]
theorem sc_scaled_for : FnScope ["rows", "multipliers"] ["rows", "multipliers"] (defScope s_scaled_for) := ⟨rfl, rfl, rfl, by decide +kernel, rfl, by decide +kernel, by decide +kernel⟩
abbrev s_loads : Stmt := topS 21
abbrev N_loads : List Str := ["program", "multipliers", "rows", "numerators", "scale", "variable", "row"]
theorem sc_loads : FnScope ["program", "multipliers", "rows", "numerators", "scale", "variable", "row"] ["program", "multipliers"] (defScope s_loads) := ⟨rfl, rfl, rfl, by decide +kernel, rfl, by decide +kernel, by decide +kernel⟩
abbrev s_gain : Stmt := topS 22
abbrev N_gain : List Str := ["program", "multipliers", "rows", "numerators", "scale", "row"]
theorem sc_gain : FnScope ["program", "multipliers", "rows", "numerators", "scale", "row"] ["program", "multipliers"] (defScope s_gain) := ⟨rfl, rfl, rfl, by decide +kernel, rfl, by decide +kernel, by decide +kernel⟩
abbrev s_law_numbers : Stmt := topS 24
abbrev N_law_numbers : List Str := ["script", "many", "rest", "mixed", "numbers", "k", "at", "cell"]
theorem sc_law_numbers : FnScope ["script", "many", "rest", "mixed", "numbers", "k", "at", "cell"] ["script", "many"] (defScope s_law_numbers) := ⟨rfl, rfl, rfl, by decide +kernel, rfl, by decide +kernel, by decide +kernel⟩
abbrev s_law_lowest : Stmt := topS 25
abbrev N_law_lowest : List Str := ["p", "q", "one", "two", "turn"]
theorem sc_law_lowest : FnScope ["p", "q", "one", "two", "turn"] ["p", "q"] (defScope s_law_lowest) := ⟨rfl, rfl, rfl, by decide +kernel, rfl, by decide +kernel, by decide +kernel⟩
abbrev s_law_plus : Stmt := topS 26
abbrev N_law_plus : List Str := ["first", "second"]
theorem sc_law_plus : FnScope ["first", "second"] ["first", "second"] (defScope s_law_plus) := ⟨rfl, rfl, rfl, by decide +kernel, rfl, by decide +kernel, by decide +kernel⟩
abbrev s_law_times : Stmt := topS 27
abbrev N_law_times : List Str := ["first", "second"]
theorem sc_law_times : FnScope ["first", "second"] ["first", "second"] (defScope s_law_times) := ⟨rfl, rfl, rfl, by decide +kernel, rfl, by decide +kernel, by decide +kernel⟩
abbrev s_law_less : Stmt := topS 28
abbrev N_law_less : List Str := ["first", "second"]
theorem sc_law_less : FnScope ["first", "second"] ["first", "second"] (defScope s_law_less) := ⟨rfl, rfl, rfl, by decide +kernel, rfl, by decide +kernel, by decide +kernel⟩
abbrev s_law_added : Stmt := topS 29
abbrev N_law_added : List Str := ["rows", "total", "one"]
theorem sc_law_added : FnScope ["rows", "total", "one"] ["rows"] (defScope s_law_added) := ⟨rfl, rfl, rfl, by decide +kernel, rfl, by decide +kernel, by decide +kernel⟩
abbrev s_law_weighted : Stmt := topS 30
abbrev N_law_weighted : List Str := ["numbers", "values", "k"]
theorem sc_law_weighted : FnScope ["numbers", "values", "k"] ["numbers", "values"] (defScope s_law_weighted) := ⟨rfl, rfl, rfl, by decide +kernel, rfl, by decide +kernel, by decide +kernel⟩
abbrev s_law_drawn : Stmt := topS 31
abbrev N_law_drawn : List Str := ["numbers", "at", "many", "count", "wide", "rows", "k", "drawn", "line", "relation", "j", "c"]
theorem sc_law_drawn : FnScope ["numbers", "at", "many", "count", "wide", "rows", "k", "drawn", "line", "relation", "j", "c"] ["numbers", "at", "many", "count", "wide"] (defScope s_law_drawn) := ⟨rfl, rfl, rfl, by decide +kernel, rfl, by decide +kernel, by decide +kernel⟩
abbrev s_law_fits : Stmt := topS 32
abbrev N_law_fits : List Str := ["row", "values", "line", "relation", "bound", "total"]
theorem sc_law_fits : FnScope ["row", "values", "line", "relation", "bound", "total"] ["row", "values"] (defScope s_law_fits) := ⟨rfl, rfl, rfl, by decide +kernel, rfl, by decide +kernel, by decide +kernel⟩
abbrev s_law_solution : Stmt := topS 33
abbrev N_law_solution : List Str := ["many", "rows", "values", "row", "one"]
theorem sc_law_solution : FnScope ["many", "rows", "values", "row", "one"] ["many", "rows", "values"] (defScope s_law_solution) := ⟨rfl, rfl, rfl, by decide +kernel, rfl, by decide +kernel, by decide +kernel⟩
abbrev s_law_fit : Stmt := topS 34
abbrev N_law_fit : List Str := ["rows", "weights", "k"]
theorem sc_law_fit : FnScope ["rows", "weights", "k"] ["rows", "weights"] (defScope s_law_fit) := ⟨rfl, rfl, rfl, by decide +kernel, rfl, by decide +kernel, by decide +kernel⟩
abbrev s_law_load : Stmt := topS 35
abbrev N_law_load : List Str := ["rows", "weights", "j", "row"]
theorem sc_law_load : FnScope ["rows", "weights", "j", "row"] ["rows", "weights", "j"] (defScope s_law_load) := ⟨rfl, rfl, rfl, by decide +kernel, rfl, by decide +kernel, by decide +kernel⟩
abbrev s_law_gain : Stmt := topS 36
abbrev N_law_gain : List Str := ["rows", "weights", "row"]
theorem sc_law_gain : FnScope ["rows", "weights", "row"] ["rows", "weights"] (defScope s_law_gain) := ⟨rfl, rfl, rfl, by decide +kernel, rfl, by decide +kernel, by decide +kernel⟩
abbrev s_law_some : Stmt := topS 37
abbrev N_law_some : List Str := ["numbers", "at", "k", "top"]
theorem sc_law_some : FnScope ["numbers", "at", "k", "top"] ["numbers", "at", "k"] (defScope s_law_some) := ⟨rfl, rfl, rfl, by decide +kernel, rfl, by decide +kernel, by decide +kernel⟩
abbrev s_law_refused : Stmt := topS 38
abbrev N_law_refused : List Str := ["way", "program", "weights", "error"]
theorem sc_law_refused : FnScope ["way", "program", "weights", "error"] ["way", "program", "weights"] (defScope s_law_refused) := ⟨rfl, rfl, rfl, by decide +kernel, rfl, by decide +kernel, by decide +kernel⟩
abbrev s_law_signed : Stmt := topS 39
abbrev N_law_signed : List Str := ["rows", "weights", "found", "row", "one"]
theorem sc_law_signed : FnScope ["rows", "weights", "found", "row", "one"] ["rows", "weights"] (defScope s_law_signed) := ⟨rfl, rfl, rfl, by decide +kernel, rfl, by decide +kernel, by decide +kernel⟩
abbrev s_law : Stmt := topS 40
abbrev N_law : List Str := ["script", "numbers", "many", "prices", "rows", "program", "turn", "weights", "shown", "due", "told", "wrong", "values", "paid", "j", "k", "one", "load", "value"]
theorem sc_law : FnScope ["script", "numbers", "many", "prices", "rows", "program", "turn", "weights", "shown", "due", "told", "wrong", "values", "paid", "j", "k", "one", "load", "value"] ["script"] (defScope s_law) := ⟨rfl, rfl, rfl, by decide +kernel, rfl, by decide +kernel, by decide +kernel⟩
/-- what the top says -/
structure Tx (K : PySem.W.Frag) (mg : Str → Option Value) where
  f_WebError___init__ : Addr
  fd_WebError___init__ : FuncData
  F_WebError___init__ : Fun K "__init__" "WebError.__init__" s_WebError___init__ f_WebError___init__ fd_WebError___init__
  b_WebError___init__ : Binds K fd_WebError___init__ ["self", "at"] []
  f_fraction : Addr
  fd_fraction : FuncData
  F_fraction : Fun K "fraction" "fraction" s_fraction f_fraction fd_fraction
  b_fraction : Binds K fd_fraction ["numerator", "denominator"] []
  g_fraction : mg "fraction" = some (.ref f_fraction)
  f_scaled : Addr
  fd_scaled : FuncData
  F_scaled : Fun K "scaled" "scaled" s_scaled f_scaled fd_scaled
  b_scaled : Binds K fd_scaled ["fractions"] []
  g_scaled : mg "scaled" = some (.ref f_scaled)
  f_Program___init__ : Addr
  fd_Program___init__ : FuncData
  F_Program___init__ : Fun K "__init__" "Program.__init__" s_Program___init__ f_Program___init__ fd_Program___init__
  b_Program___init__ : Binds K fd_Program___init__ ["self", "prices", "rows"] []
  f_Program_count : Addr
  fd_Program_count : FuncData
  F_Program_count : Fun K "count" "Program.count" s_Program_count f_Program_count fd_Program_count
  b_Program_count : Binds K fd_Program_count ["self"] []
  f_Program_rows : Addr
  fd_Program_rows : FuncData
  F_Program_rows : Fun K "rows" "Program.rows" s_Program_rows f_Program_rows fd_Program_rows
  b_Program_rows : Binds K fd_Program_rows ["self"] []
  f_dot : Addr
  fd_dot : FuncData
  F_dot : Fun K "dot" "dot" s_dot f_dot fd_dot
  b_dot : Binds K fd_dot ["numbers", "others"] []
  g_dot : mg "dot" = some (.ref f_dot)
  f_is_fit : Addr
  fd_is_fit : FuncData
  F_is_fit : Fun K "is_fit" "is_fit" s_is_fit f_is_fit fd_is_fit
  b_is_fit : Binds K fd_is_fit ["relation", "multiplier"] []
  g_is_fit : mg "is_fit" = some (.ref f_is_fit)
  f_are_fit : Addr
  fd_are_fit : FuncData
  F_are_fit : Fun K "are_fit" "are_fit" s_are_fit f_are_fit fd_are_fit
  b_are_fit : Binds K fd_are_fit ["program", "multipliers"] []
  g_are_fit : mg "are_fit" = some (.ref f_are_fit)
  f_scaled_for : Addr
  fd_scaled_for : FuncData
  F_scaled_for : Fun K "scaled_for" "scaled_for" s_scaled_for f_scaled_for fd_scaled_for
  b_scaled_for : Binds K fd_scaled_for ["rows", "multipliers"] []
  g_scaled_for : mg "scaled_for" = some (.ref f_scaled_for)
  f_loads : Addr
  fd_loads : FuncData
  F_loads : Fun K "loads" "loads" s_loads f_loads fd_loads
  b_loads : Binds K fd_loads ["program", "multipliers"] []
  g_loads : mg "loads" = some (.ref f_loads)
  f_gain : Addr
  fd_gain : FuncData
  F_gain : Fun K "gain" "gain" s_gain f_gain fd_gain
  b_gain : Binds K fd_gain ["program", "multipliers"] []
  g_gain : mg "gain" = some (.ref f_gain)
  f_law_numbers : Addr
  fd_law_numbers : FuncData
  F_law_numbers : Fun K "_law_numbers" "_law_numbers" s_law_numbers f_law_numbers fd_law_numbers
  b_law_numbers : Binds K fd_law_numbers ["script", "many"] []
  g_law_numbers : mg "_law_numbers" = some (.ref f_law_numbers)
  f_law_lowest : Addr
  fd_law_lowest : FuncData
  F_law_lowest : Fun K "_law_lowest" "_law_lowest" s_law_lowest f_law_lowest fd_law_lowest
  b_law_lowest : Binds K fd_law_lowest ["p", "q"] []
  g_law_lowest : mg "_law_lowest" = some (.ref f_law_lowest)
  f_law_plus : Addr
  fd_law_plus : FuncData
  F_law_plus : Fun K "_law_plus" "_law_plus" s_law_plus f_law_plus fd_law_plus
  b_law_plus : Binds K fd_law_plus ["first", "second"] []
  g_law_plus : mg "_law_plus" = some (.ref f_law_plus)
  f_law_times : Addr
  fd_law_times : FuncData
  F_law_times : Fun K "_law_times" "_law_times" s_law_times f_law_times fd_law_times
  b_law_times : Binds K fd_law_times ["first", "second"] []
  g_law_times : mg "_law_times" = some (.ref f_law_times)
  f_law_less : Addr
  fd_law_less : FuncData
  F_law_less : Fun K "_law_less" "_law_less" s_law_less f_law_less fd_law_less
  b_law_less : Binds K fd_law_less ["first", "second"] []
  g_law_less : mg "_law_less" = some (.ref f_law_less)
  f_law_added : Addr
  fd_law_added : FuncData
  F_law_added : Fun K "_law_added" "_law_added" s_law_added f_law_added fd_law_added
  b_law_added : Binds K fd_law_added ["rows"] []
  g_law_added : mg "_law_added" = some (.ref f_law_added)
  f_law_weighted : Addr
  fd_law_weighted : FuncData
  F_law_weighted : Fun K "_law_weighted" "_law_weighted" s_law_weighted f_law_weighted fd_law_weighted
  b_law_weighted : Binds K fd_law_weighted ["numbers", "values"] []
  g_law_weighted : mg "_law_weighted" = some (.ref f_law_weighted)
  f_law_drawn : Addr
  fd_law_drawn : FuncData
  F_law_drawn : Fun K "_law_drawn" "_law_drawn" s_law_drawn f_law_drawn fd_law_drawn
  b_law_drawn : Binds K fd_law_drawn ["numbers", "at", "many", "count", "wide"] []
  g_law_drawn : mg "_law_drawn" = some (.ref f_law_drawn)
  f_law_fits : Addr
  fd_law_fits : FuncData
  F_law_fits : Fun K "_law_fits" "_law_fits" s_law_fits f_law_fits fd_law_fits
  b_law_fits : Binds K fd_law_fits ["row", "values"] []
  g_law_fits : mg "_law_fits" = some (.ref f_law_fits)
  f_law_solution : Addr
  fd_law_solution : FuncData
  F_law_solution : Fun K "_law_solution" "_law_solution" s_law_solution f_law_solution fd_law_solution
  b_law_solution : Binds K fd_law_solution ["many", "rows", "values"] []
  g_law_solution : mg "_law_solution" = some (.ref f_law_solution)
  f_law_fit : Addr
  fd_law_fit : FuncData
  F_law_fit : Fun K "_law_fit" "_law_fit" s_law_fit f_law_fit fd_law_fit
  b_law_fit : Binds K fd_law_fit ["rows", "weights"] []
  g_law_fit : mg "_law_fit" = some (.ref f_law_fit)
  f_law_load : Addr
  fd_law_load : FuncData
  F_law_load : Fun K "_law_load" "_law_load" s_law_load f_law_load fd_law_load
  b_law_load : Binds K fd_law_load ["rows", "weights", "j"] []
  g_law_load : mg "_law_load" = some (.ref f_law_load)
  f_law_gain : Addr
  fd_law_gain : FuncData
  F_law_gain : Fun K "_law_gain" "_law_gain" s_law_gain f_law_gain fd_law_gain
  b_law_gain : Binds K fd_law_gain ["rows", "weights"] []
  g_law_gain : mg "_law_gain" = some (.ref f_law_gain)
  f_law_some : Addr
  fd_law_some : FuncData
  F_law_some : Fun K "_law_some" "_law_some" s_law_some f_law_some fd_law_some
  b_law_some : Binds K fd_law_some ["numbers", "at", "k"] []
  g_law_some : mg "_law_some" = some (.ref f_law_some)
  f_law_refused : Addr
  fd_law_refused : FuncData
  F_law_refused : Fun K "_law_refused" "_law_refused" s_law_refused f_law_refused fd_law_refused
  b_law_refused : Binds K fd_law_refused ["way", "program", "weights"] []
  g_law_refused : mg "_law_refused" = some (.ref f_law_refused)
  f_law_signed : Addr
  fd_law_signed : FuncData
  F_law_signed : Fun K "_law_signed" "_law_signed" s_law_signed f_law_signed fd_law_signed
  b_law_signed : Binds K fd_law_signed ["rows", "weights"] []
  g_law_signed : mg "_law_signed" = some (.ref f_law_signed)
  f_law : Addr
  fd_law : FuncData
  F_law : Fun K "law" "law" s_law f_law fd_law
  b_law : Binds K fd_law ["script"] []
  g_law : mg "law" = some (.ref f_law)
  c_Program : Addr
  g_Program : mg "Program" = some (.ref c_Program)
  cl_Program : Cls K c_Program
  mk_Program : Mk K c_Program f_Program___init__
  m_Program_count : Meth K c_Program "count" f_Program_count
  m_Program_rows : Meth K c_Program "rows" f_Program_rows
  na_Program__prices : NoAttr K c_Program "_prices"
  na_Program__rows : NoAttr K c_Program "_rows"
  c_WebError : Addr
  x_WebError : OexC K c_WebError ∧ PySem.W.findIn K (.ref c_WebError) "at" = some none ∧ PySem.W.findIn K (.ref c_WebError) "__init__" = some (some (.ref f_WebError___init__)) ∧ PySem.W.typeIn K (.ref f_WebError___init__) = some (.type "function") ∧ mg "WebError" = some (.ref c_WebError)
  e_WebError : ExcC K c_WebError
  ef_WebError : XfC K c_WebError
  c_OutOfRange : Addr
  x_OutOfRange : OexC K c_OutOfRange ∧ PySem.W.findIn K (.ref c_OutOfRange) "at" = some none ∧ PySem.W.findIn K (.ref c_OutOfRange) "__init__" = some (some (.ref f_WebError___init__)) ∧ PySem.W.typeIn K (.ref f_WebError___init__) = some (.type "function") ∧ mg "OutOfRange" = some (.ref c_OutOfRange)
  e_OutOfRange : ExcC K c_OutOfRange
  ef_OutOfRange : XfC K c_OutOfRange
  c_TooMany : Addr
  x_TooMany : OexC K c_TooMany ∧ PySem.W.findIn K (.ref c_TooMany) "at" = some none ∧ PySem.W.findIn K (.ref c_TooMany) "__init__" = some (some (.ref f_WebError___init__)) ∧ PySem.W.typeIn K (.ref f_WebError___init__) = some (.type "function") ∧ mg "TooMany" = some (.ref c_TooMany)
  e_TooMany : ExcC K c_TooMany
  ef_TooMany : XfC K c_TooMany
  c_ZeroDivisor : Addr
  x_ZeroDivisor : OexC K c_ZeroDivisor ∧ PySem.W.findIn K (.ref c_ZeroDivisor) "at" = some none ∧ PySem.W.findIn K (.ref c_ZeroDivisor) "__init__" = some (some (.ref f_WebError___init__)) ∧ PySem.W.typeIn K (.ref f_WebError___init__) = some (.type "function") ∧ mg "ZeroDivisor" = some (.ref c_ZeroDivisor)
  e_ZeroDivisor : ExcC K c_ZeroDivisor
  ef_ZeroDivisor : XfC K c_ZeroDivisor
  c_BadRelation : Addr
  x_BadRelation : OexC K c_BadRelation ∧ PySem.W.findIn K (.ref c_BadRelation) "at" = some none ∧ PySem.W.findIn K (.ref c_BadRelation) "__init__" = some (some (.ref f_WebError___init__)) ∧ PySem.W.typeIn K (.ref f_WebError___init__) = some (.type "function") ∧ mg "BadRelation" = some (.ref c_BadRelation)
  e_BadRelation : ExcC K c_BadRelation
  ef_BadRelation : XfC K c_BadRelation
  c_WrongSize : Addr
  x_WrongSize : OexC K c_WrongSize ∧ PySem.W.findIn K (.ref c_WrongSize) "at" = some none ∧ PySem.W.findIn K (.ref c_WrongSize) "__init__" = some (some (.ref f_WebError___init__)) ∧ PySem.W.typeIn K (.ref f_WebError___init__) = some (.type "function") ∧ mg "WrongSize" = some (.ref c_WrongSize)
  e_WrongSize : ExcC K c_WrongSize
  ef_WrongSize : XfC K c_WrongSize
  em_OutOfRange : PySem.W.exmOne K (.ref c_OutOfRange) (.ref c_WebError) = some true
  is_OutOfRange_OutOfRange : PySem.W.kitOne K (.ref c_OutOfRange) (.ref c_OutOfRange) = some true
  is_OutOfRange_TooMany : PySem.W.kitOne K (.ref c_OutOfRange) (.ref c_TooMany) = some false
  is_OutOfRange_ZeroDivisor : PySem.W.kitOne K (.ref c_OutOfRange) (.ref c_ZeroDivisor) = some false
  is_OutOfRange_BadRelation : PySem.W.kitOne K (.ref c_OutOfRange) (.ref c_BadRelation) = some false
  is_OutOfRange_WrongSize : PySem.W.kitOne K (.ref c_OutOfRange) (.ref c_WrongSize) = some false
  em_TooMany : PySem.W.exmOne K (.ref c_TooMany) (.ref c_WebError) = some true
  is_TooMany_OutOfRange : PySem.W.kitOne K (.ref c_TooMany) (.ref c_OutOfRange) = some false
  is_TooMany_TooMany : PySem.W.kitOne K (.ref c_TooMany) (.ref c_TooMany) = some true
  is_TooMany_ZeroDivisor : PySem.W.kitOne K (.ref c_TooMany) (.ref c_ZeroDivisor) = some false
  is_TooMany_BadRelation : PySem.W.kitOne K (.ref c_TooMany) (.ref c_BadRelation) = some false
  is_TooMany_WrongSize : PySem.W.kitOne K (.ref c_TooMany) (.ref c_WrongSize) = some false
  em_ZeroDivisor : PySem.W.exmOne K (.ref c_ZeroDivisor) (.ref c_WebError) = some true
  is_ZeroDivisor_OutOfRange : PySem.W.kitOne K (.ref c_ZeroDivisor) (.ref c_OutOfRange) = some false
  is_ZeroDivisor_TooMany : PySem.W.kitOne K (.ref c_ZeroDivisor) (.ref c_TooMany) = some false
  is_ZeroDivisor_ZeroDivisor : PySem.W.kitOne K (.ref c_ZeroDivisor) (.ref c_ZeroDivisor) = some true
  is_ZeroDivisor_BadRelation : PySem.W.kitOne K (.ref c_ZeroDivisor) (.ref c_BadRelation) = some false
  is_ZeroDivisor_WrongSize : PySem.W.kitOne K (.ref c_ZeroDivisor) (.ref c_WrongSize) = some false
  em_BadRelation : PySem.W.exmOne K (.ref c_BadRelation) (.ref c_WebError) = some true
  is_BadRelation_OutOfRange : PySem.W.kitOne K (.ref c_BadRelation) (.ref c_OutOfRange) = some false
  is_BadRelation_TooMany : PySem.W.kitOne K (.ref c_BadRelation) (.ref c_TooMany) = some false
  is_BadRelation_ZeroDivisor : PySem.W.kitOne K (.ref c_BadRelation) (.ref c_ZeroDivisor) = some false
  is_BadRelation_BadRelation : PySem.W.kitOne K (.ref c_BadRelation) (.ref c_BadRelation) = some true
  is_BadRelation_WrongSize : PySem.W.kitOne K (.ref c_BadRelation) (.ref c_WrongSize) = some false
  em_WrongSize : PySem.W.exmOne K (.ref c_WrongSize) (.ref c_WebError) = some true
  is_WrongSize_OutOfRange : PySem.W.kitOne K (.ref c_WrongSize) (.ref c_OutOfRange) = some false
  is_WrongSize_TooMany : PySem.W.kitOne K (.ref c_WrongSize) (.ref c_TooMany) = some false
  is_WrongSize_ZeroDivisor : PySem.W.kitOne K (.ref c_WrongSize) (.ref c_ZeroDivisor) = some false
  is_WrongSize_BadRelation : PySem.W.kitOne K (.ref c_WrongSize) (.ref c_BadRelation) = some false
  is_WrongSize_WrongSize : PySem.W.kitOne K (.ref c_WrongSize) (.ref c_WrongSize) = some true
  z_len : mg "len" = none
  z_range : mg "range" = none
  z_abs : mg "abs" = none
  z_int : mg "int" = none
  z_sum : mg "sum" = none
  z_isinstance : mg "isinstance" = none
  z_list : mg "list" = none
  z_enumerate : mg "enumerate" = none
  z_zip : mg "zip" = none
  z_all : mg "all" = none
  z_repr : mg "repr" = none
  z_gcd : mg "gcd" = some (.builtin "math.gcd")
  z_lcm : mg "lcm" = some (.builtin "math.lcm")
  t_MOST_VARIABLES : Tok
  k_MOST_VARIABLES : mg "MOST_VARIABLES" = some (.int 40 t_MOST_VARIABLES)
  t_MOST_ROWS : Tok
  k_MOST_ROWS : mg "MOST_ROWS" = some (.int 80 t_MOST_ROWS)
  c_RELATIONS : Addr
  k_RELATIONS : mg "RELATIONS" = some (.ref c_RELATIONS)
  q_RELATIONS : ∀ H : Hp, SqT K H c_RELATIONS ([PySem.Str.ofString "least", PySem.Str.ofString "most", PySem.Str.ofString "equal"].map V.str)
def Tx.kn {K : PySem.W.Frag} {mg : Str → Option Value} (T : Tx K mg) : List Addr := [T.c_WebError, T.c_OutOfRange, T.c_TooMany, T.c_ZeroDivisor, T.c_BadRelation, T.c_WrongSize]
theorem Tx.kn_at {K : PySem.W.Frag} {mg : Str → Option Value} (T : Tx K mg) : ∀ C ∈ T.kn, XfC K C ∧ PySem.W.findIn K (.ref C) "at" = some none := fun C h => by
  unfold Tx.kn at h
  simp only [List.mem_cons, List.not_mem_nil, or_false] at h
  rcases h with rfl | rfl | rfl | rfl | rfl | rfl
  · exact ⟨T.ef_WebError, T.x_WebError.2.1⟩
  · exact ⟨T.ef_OutOfRange, T.x_OutOfRange.2.1⟩
  · exact ⟨T.ef_TooMany, T.x_TooMany.2.1⟩
  · exact ⟨T.ef_ZeroDivisor, T.x_ZeroDivisor.2.1⟩
  · exact ⟨T.ef_BadRelation, T.x_BadRelation.2.1⟩
  · exact ⟨T.ef_WrongSize, T.x_WrongSize.2.1⟩
theorem Tx.kn_is {K : PySem.W.Frag} {mg : Str → Option Value} (T : Tx K mg) : ∀ C ∈ T.kn, ExcC K C := fun C h => by
  unfold Tx.kn at h
  simp only [List.mem_cons, List.not_mem_nil, or_false] at h
  rcases h with rfl | rfl | rfl | rfl | rfl | rfl
  · exact T.e_WebError
  · exact T.e_OutOfRange
  · exact T.e_TooMany
  · exact T.e_ZeroDivisor
  · exact T.e_BadRelation
  · exact T.e_WrongSize
section
variable {K : PySem.W.Frag} {mg : Str → Option Value}
def xs_fraction (T : Tx K mg) : XS K := (.seq (.ite (.test (.op O2.eq (.var 1) (.int 0)))
    (.raise T.c_ZeroDivisor T.x_ZeroDivisor.1 T.x_ZeroDivisor.2.1 (.cons false (.var 0) .nil))
    XS.nx)
    (.seq (.set 2 (.bi Bi.gcd (.cons false (.var 0) (.cons false (.var 1) .nil))))
    (.seq (.ite (.test (.op O2.lt (.var 1) (.int 0)))
    (.set 2 (.neg (.var 2)))
    XS.nx)
    (.ret (.tup (.cons false (.op O2.divU (.var 0) (.var 2)) (.cons false (.op O2.divU (.var 1) (.var 2)) .nil)))))))
def fn_fraction (T : Tx K mg) : Fn := ⟨2, false, fun as => runX (xs_fraction T) false 1 as⟩
theorem fnf_fraction (T : Tx K mg) (as : List Av) : (fn_fraction T).f as = runX (xs_fraction T) false 1 as := by unfold fn_fraction; rfl
theorem fnm_fraction (T : Tx K mg) : (fn_fraction T).m = 2 := by unfold fn_fraction; rfl
theorem fno_fraction (T : Tx K mg) : (fn_fraction T).own = false := by unfold fn_fraction; rfl
def xb_scaled_1 (T : Tx K mg) : XS K := (.set 1 (.bi Bi.lcm (.cons false (.var 1) (.cons false (.op O2.ixT (.var 2) (.int 1)) .nil))))
def xs_scaled (T : Tx K mg) : XS K := (.seq (.set 1 (.int 1))
    (.seq (.for_ (.list (.var 0)) (.name 2) (xb_scaled_1 T))
    (.ret (.tup (.cons false (XN.blank 2 (.lc (.list (.var 0)) (.name 2) .yes (.op O2.mul (.op O2.ixT (.var 2) (.int 0)) (.op O2.div (.var 1) (.op O2.ixT (.var 2) (.int 1)))) [2])).e (.cons false (.var 1) .nil))))))
def fn_scaled (T : Tx K mg) : Fn := ⟨1, false, fun as => runX (xs_scaled T) false 2 as⟩
theorem fnf_scaled (T : Tx K mg) (as : List Av) : (fn_scaled T).f as = runX (xs_scaled T) false 2 as := by unfold fn_scaled; rfl
theorem fnm_scaled (T : Tx K mg) : (fn_scaled T).m = 1 := by unfold fn_scaled; rfl
theorem fno_scaled (T : Tx K mg) : (fn_scaled T).own = false := by unfold fn_scaled; rfl
def xb_Program___init___1 (T : Tx K mg) : XS K := (.seq (.ite (.test (.op O2.ne (.bi Bi.len (.cons true (.var 4) .nil)) (.bi Bi.len (.cons true (.var 1) .nil))))
    (.raise T.c_WrongSize T.x_WrongSize.1 T.x_WrongSize.2.1 (.cons false (.var 3) .nil))
    XS.nx)
    (.ite (.test (.inK true (.var 5) T.c_RELATIONS [PySem.Str.ofString "least", PySem.Str.ofString "most", PySem.Str.ofString "equal"] T.q_RELATIONS))
    (.raise T.c_BadRelation T.x_BadRelation.1 T.x_BadRelation.2.1 (.cons false (.var 3) .nil))
    XS.nx))
def xs_Program___init__ (T : Tx K mg) : XS K := (.seq (.ite (.not (.test (.chain O2.le O2.le (.int 1) (.bi Bi.len (.cons true (.var 1) .nil)) (.int 40))))
    (.raise T.c_OutOfRange T.x_OutOfRange.1 T.x_OutOfRange.2.1 (.cons false (.bi Bi.len (.cons true (.var 1) .nil)) .nil))
    XS.nx)
    (.seq (.ite (.test (.op O2.gt (.bi Bi.len (.cons true (.var 2) .nil)) (.int 80)))
    (.raise T.c_TooMany T.x_TooMany.1 T.x_TooMany.2.1 (.cons false (.bi Bi.len (.cons true (.var 2) .nil)) .nil))
    XS.nx)
    (.seq (.for_ (.enum (.var 2)) (.tup (.cons (.name 3) (.cons (.tup (.cons (.name 4) (.cons (.name 5) (.cons (.name 6) .nil)))) .nil))) (xb_Program___init___1 T))
    (.seq (.setfld 0 T.c_Program T.cl_Program "_prices" T.na_Program__prices (XN.bi BiN.list (.cons true (.var 1) .nil)).e)
    (.setfld 0 T.c_Program T.cl_Program "_rows" T.na_Program__rows (XN.blank 5 (.blank 4 (.lc (.list (.var 2)) (.tup (.cons (.name 4) (.cons (.name 5) (.cons (.name 7) .nil)))) .yes (.tup (.cons false (XN.bi BiN.list (.cons true (.var 4) .nil)).e (.cons false (.var 5) (.cons false (.var 7) .nil)))) [4, 5, 7]))).e)))))
def rowOk (m : Nat) : PyData → Bool
  | .tuple [.list ns, .str rel, b] => decide (ns.length = m) && decide (rel ∈ [PySem.Str.ofString "least", PySem.Str.ofString "most", PySem.Str.ofString "equal"])
  | _ => false
def progF : List Av → Rs (List (Str × PyData))
  | [.v (.d (.list ps)), .v (.d (.list rs))] => if (1 ≤ ps.length ∧ ps.length ≤ 40) ∧ rs.length ≤ 80 ∧ rs.all (rowOk ps.length) = true then .ok [("_prices", .list ps), ("_rows", .list rs)] else .no
  | _ => .no
def fn_Program___init__ (T : Tx K mg) : FnI := ⟨2, progF⟩
theorem fnif_Program (T : Tx K mg) (as : List Av) : (fn_Program___init__ T).f as = progF as := rfl
theorem fnim_Program (T : Tx K mg) : (fn_Program___init__ T).m = 2 := rfl
def xs_Program_count (T : Tx K mg) : XS K := (.ret (.bi Bi.len (.cons true (.fld T.c_Program T.cl_Program "_prices" T.na_Program__prices (.var 0)) .nil)))
def fn_Program_count (T : Tx K mg) : Fn := ⟨1, false, fun as => runX (xs_Program_count T) false 0 as⟩
theorem fnf_Program_count (T : Tx K mg) (as : List Av) : (fn_Program_count T).f as = runX (xs_Program_count T) false 0 as := by unfold fn_Program_count; rfl
theorem fnm_Program_count (T : Tx K mg) : (fn_Program_count T).m = 1 := by unfold fn_Program_count; rfl
theorem fno_Program_count (T : Tx K mg) : (fn_Program_count T).own = false := by unfold fn_Program_count; rfl
def xs_Program_rows (T : Tx K mg) : XS K := (.ret (XN.lc (.list (.fld T.c_Program T.cl_Program "_rows" T.na_Program__rows (.var 0))) (.tup (.cons (.name 1) (.cons (.name 2) (.cons (.name 3) .nil)))) .yes (.tup (.cons false (XN.bi BiN.list (.cons true (.var 1) .nil)).e (.cons false (.var 2) (.cons false (.var 3) .nil)))) [1, 2, 3]).e)
def fn_Program_rows (T : Tx K mg) : Fn := ⟨1, false, fun as => runX (xs_Program_rows T) false 3 as⟩
theorem fnf_Program_rows (T : Tx K mg) (as : List Av) : (fn_Program_rows T).f as = runX (xs_Program_rows T) false 3 as := by unfold fn_Program_rows; rfl
theorem fnm_Program_rows (T : Tx K mg) : (fn_Program_rows T).m = 1 := by unfold fn_Program_rows; rfl
theorem fno_Program_rows (T : Tx K mg) : (fn_Program_rows T).own = false := by unfold fn_Program_rows; rfl
def xs_dot (T : Tx K mg) : XS K := (.ret (.bi Bi.sum (.cons true (XN.lc (.zip (.var 0) (.var 1)) (.tup (.cons (.name 2) (.cons (.name 3) .nil))) .yes (.op O2.mul (.var 2) (.var 3)) [2, 3]).e .nil)))
def fn_dot (T : Tx K mg) : Fn := ⟨2, false, fun as => runX (xs_dot T) false 2 as⟩
theorem fnf_dot (T : Tx K mg) (as : List Av) : (fn_dot T).f as = runX (xs_dot T) false 2 as := by unfold fn_dot; rfl
theorem fnm_dot (T : Tx K mg) : (fn_dot T).m = 2 := by unfold fn_dot; rfl
theorem fno_dot (T : Tx K mg) : (fn_dot T).own = false := by unfold fn_dot; rfl
def xs_is_fit (T : Tx K mg) : XS K := (.seq (.ite (.test (.op O2.eq (.var 0) (.str (PySem.Str.ofString "least"))))
    (.ret (.op O2.ge (.op O2.ixT (.var 1) (.int 0)) (.int 0)))
    XS.nx)
    (.ret (.orV (.op O2.eq (.var 0) (.str (PySem.Str.ofString "equal"))) (.op O2.le (.op O2.ixT (.var 1) (.int 0)) (.int 0)))))
def fn_is_fit (T : Tx K mg) : Fn := ⟨2, false, fun as => runX (xs_is_fit T) false 0 as⟩
theorem fnf_is_fit (T : Tx K mg) (as : List Av) : (fn_is_fit T).f as = runX (xs_is_fit T) false 0 as := by unfold fn_is_fit; rfl
theorem fnm_is_fit (T : Tx K mg) : (fn_is_fit T).m = 2 := by unfold fn_is_fit; rfl
theorem fno_is_fit (T : Tx K mg) : (fn_is_fit T).own = false := by unfold fn_is_fit; rfl
def xs_are_fit (T : Tx K mg) : XS K := (.seq (.set 2 (.meth T.c_Program "rows" (fn_Program_rows T) (fno_Program_rows T) (.var 0) .nil))
    (.seq (.ite (.test (.op O2.ne (.bi Bi.len (.cons true (.var 1) .nil)) (.bi Bi.len (.cons true (.var 2) .nil))))
    (.ret (.bool false))
    XS.nx)
    (.ret (.bi Bi.all (.cons true (XN.lc (.zip (.var 2) (.var 1)) (.tup (.cons (.name 3) (.cons (.name 4) .nil))) .yes (.call (fn_is_fit T) (fno_is_fit T) (.cons false (.op O2.ixT (.var 3) (.int 1)) (.cons false (.var 4) .nil))) [3, 4]).e .nil)))))
def fn_are_fit (T : Tx K mg) : Fn := ⟨2, false, fun as => runX (xs_are_fit T) false 3 as⟩
theorem fnf_are_fit (T : Tx K mg) (as : List Av) : (fn_are_fit T).f as = runX (xs_are_fit T) false 3 as := by unfold fn_are_fit; rfl
theorem fnm_are_fit (T : Tx K mg) : (fn_are_fit T).m = 2 := by unfold fn_are_fit; rfl
theorem fno_are_fit (T : Tx K mg) : (fn_are_fit T).own = false := by unfold fn_are_fit; rfl
def xs_scaled_for (T : Tx K mg) : XS K := (.seq (.ite (.test (.op O2.ne (.bi Bi.len (.cons true (.var 1) .nil)) (.bi Bi.len (.cons true (.var 0) .nil))))
    (.raise T.c_WrongSize T.x_WrongSize.1 T.x_WrongSize.2.1 (.cons false (.int 0) .nil))
    XS.nx)
    (.ret (.call (fn_scaled T) (fno_scaled T) (.cons false (.var 1) .nil))))
def fn_scaled_for (T : Tx K mg) : Fn := ⟨2, false, fun as => runX (xs_scaled_for T) false 0 as⟩
theorem fnf_scaled_for (T : Tx K mg) (as : List Av) : (fn_scaled_for T).f as = runX (xs_scaled_for T) false 0 as := by unfold fn_scaled_for; rfl
theorem fnm_scaled_for (T : Tx K mg) : (fn_scaled_for T).m = 2 := by unfold fn_scaled_for; rfl
theorem fno_scaled_for (T : Tx K mg) : (fn_scaled_for T).own = false := by unfold fn_scaled_for; rfl
def xs_loads (T : Tx K mg) : XS K := (.seq (.set 2 (.meth T.c_Program "rows" (fn_Program_rows T) (fno_Program_rows T) (.var 0) .nil))
    (.seq (.asg (.tup (.cons (.name 3) (.cons (.name 4) .nil))) (.call (fn_scaled_for T) (fno_scaled_for T) (.cons false (.var 2) (.cons false (.var 1) .nil))))
    (.retO (.lc (.range1 (.cons false (.meth T.c_Program "count" (fn_Program_count T) (fno_Program_count T) (.var 0) .nil) .nil)) (.name 5) .yes (.call (fn_fraction T) (fno_fraction T) (.cons false (.call (fn_dot T) (fno_dot T) (.cons false (XN.lc (.list (.var 2)) (.name 6) .yes (.op O2.ixL (.op O2.ixT (.var 6) (.int 0)) (.var 5)) [6]).e (.cons false (.var 3) .nil))) (.cons false (.var 4) .nil))) [5]))))
def fn_loads (T : Tx K mg) : Fn := ⟨2, true, fun as => runX (xs_loads T) true 5 as⟩
theorem fnf_loads (T : Tx K mg) (as : List Av) : (fn_loads T).f as = runX (xs_loads T) true 5 as := by unfold fn_loads; rfl
theorem fnm_loads (T : Tx K mg) : (fn_loads T).m = 2 := by unfold fn_loads; rfl
theorem fno_loads (T : Tx K mg) : (fn_loads T).own = true := by unfold fn_loads; rfl
def xs_gain (T : Tx K mg) : XS K := (.seq (.set 2 (.meth T.c_Program "rows" (fn_Program_rows T) (fno_Program_rows T) (.var 0) .nil))
    (.seq (.asg (.tup (.cons (.name 3) (.cons (.name 4) .nil))) (.call (fn_scaled_for T) (fno_scaled_for T) (.cons false (.var 2) (.cons false (.var 1) .nil))))
    (.ret (.call (fn_fraction T) (fno_fraction T) (.cons false (.call (fn_dot T) (fno_dot T) (.cons false (XN.lc (.list (.var 2)) (.name 5) .yes (.op O2.ixT (.var 5) (.int 2)) [5]).e (.cons false (.var 3) .nil))) (.cons false (.var 4) .nil))))))
def fn_gain (T : Tx K mg) : Fn := ⟨2, false, fun as => runX (xs_gain T) false 4 as⟩
theorem fnf_gain (T : Tx K mg) (as : List Av) : (fn_gain T).f as = runX (xs_gain T) false 4 as := by unfold fn_gain; rfl
theorem fnm_gain (T : Tx K mg) : (fn_gain T).m = 2 := by unfold fn_gain; rfl
theorem fno_gain (T : Tx K mg) : (fn_gain T).own = false := by unfold fn_gain; rfl
def xb_law_numbers_1 (T : Tx K mg) : XS K := (.seq (.set 6 (.op O2.mod (.bi Bi.int (.cons false (.var 5) .nil)) (.bi Bi.len (.cons true (.var 2) .nil))))
    (.ite (.test (.op O2.ge (.op O2.ixL (.var 2) (.var 6)) (.op O2.pow (.int 10) (.int 18))))
    (.seq (.app 4 (.op O2.mod (.bi Bi.int (.cons false (.op O2.ixL (.var 2) (.var 6)) .nil)) (.int 65536)))
    (.seti 2 (.var 6) (.op O2.div (.op O2.ixL (.var 2) (.var 6)) (.int 65536))))
    (.seq (.seti 3 (.var 6) (.op O2.mod (.bi Bi.int (.cons false (.op O2.add (.op O2.add (.op O2.mul (.op O2.ixL (.var 3) (.var 6)) (.int 16807)) (.int 12345)) (.op O2.mul (.int 7919) (.var 5))) .nil)) (.int 2147483647)))
    (.app 4 (.op O2.mod (.bi Bi.int (.cons false (.op O2.add (.op O2.ixL (.var 2) (.var 6)) (.op O2.div (.op O2.ixL (.var 3) (.var 6)) (.int 5))) .nil)) (.int 65536))))))
def xs_law_numbers (T : Tx K mg) : XS K := (.seq (.setN 2 (.op O2N.cat (XN.lc (.list (XN.slS (.var 0) .none (.some (.int 63))).e) (.name 7) .yes (.bi Bi.abs (.cons false (.var 7) .nil)) [7]).e (XN.lst (.cons false (.int 0) .nil)).e))
    (.seq (.ite (.test (.op O2.gt (.bi Bi.len (.cons false (.var 0) .nil)) (.int 0)))
    (.setN 2 (.sl (.var 2) .none (.some (.neg (.int 1)))))
    XS.nx)
    (.seq (.setN 3 (.lend 2 (.lc (.list (.var 2)) (.name 7) .yes (.op O2.mod (.bi Bi.int (.cons false (.op O2.add (.op O2.mul (.var 7) (.int 48271)) (.int 11)) .nil)) (.int 2147483647)) [7])))
    (.seq (.setN 4 (.lst .nil))
    (.seq (.for_ (.range1 (.cons false (.var 1) .nil)) (.name 5) (xb_law_numbers_1 T))
    (.frz 4 (.ret (.var 4))))))))
def fn_law_numbers (T : Tx K mg) : Fn := ⟨2, false, fun as => runX (xs_law_numbers T) false 6 as⟩
theorem fnf_law_numbers (T : Tx K mg) (as : List Av) : (fn_law_numbers T).f as = runX (xs_law_numbers T) false 6 as := by unfold fn_law_numbers; rfl
theorem fnm_law_numbers (T : Tx K mg) : (fn_law_numbers T).m = 2 := by unfold fn_law_numbers; rfl
theorem fno_law_numbers (T : Tx K mg) : (fn_law_numbers T).own = false := by unfold fn_law_numbers; rfl
def xb_law_lowest_1 (T : Tx K mg) : XS K := (.seq (.ite (.test (.op O2.eq (.var 3) (.int 0)))
    .brk
    XS.nx)
    (.par 2 3 (.cons false (.var 3) (.cons false (.op O2.mod (.bi Bi.int (.cons false (.var 2) .nil)) (.var 3)) .nil))))
def xs_law_lowest (T : Tx K mg) : XS K := (.seq (.ite (.test (.op O2.lt (.var 1) (.int 0)))
    (.par 0 1 (.cons false (.neg (.var 0)) (.cons false (.neg (.var 1)) .nil)))
    XS.nx)
    (.seq (.par 2 3 (.cons false (.bi Bi.abs (.cons false (.var 0) .nil)) (.cons false (.var 1) .nil)))
    (.seq (.for_ (.range1 (.cons false (.int 4000) .nil)) (.name 4) (xb_law_lowest_1 T))
    (.ret (.tup (.cons false (.op O2.div (.var 0) (.var 2)) (.cons false (.op O2.div (.var 1) (.var 2)) .nil)))))))
def fn_law_lowest (T : Tx K mg) : Fn := ⟨2, false, fun as => runX (xs_law_lowest T) false 3 as⟩
theorem fnf_law_lowest (T : Tx K mg) (as : List Av) : (fn_law_lowest T).f as = runX (xs_law_lowest T) false 3 as := by unfold fn_law_lowest; rfl
theorem fnm_law_lowest (T : Tx K mg) : (fn_law_lowest T).m = 2 := by unfold fn_law_lowest; rfl
theorem fno_law_lowest (T : Tx K mg) : (fn_law_lowest T).own = false := by unfold fn_law_lowest; rfl
def xs_law_plus (T : Tx K mg) : XS K := (.ret (.call (fn_law_lowest T) (fno_law_lowest T) (.cons false (.op O2.add (.op O2.mul (.op O2.ixT (.var 0) (.int 0)) (.op O2.ixT (.var 1) (.int 1))) (.op O2.mul (.op O2.ixT (.var 1) (.int 0)) (.op O2.ixT (.var 0) (.int 1)))) (.cons false (.op O2.mul (.op O2.ixT (.var 0) (.int 1)) (.op O2.ixT (.var 1) (.int 1))) .nil))))
def fn_law_plus (T : Tx K mg) : Fn := ⟨2, false, fun as => runX (xs_law_plus T) false 0 as⟩
theorem fnf_law_plus (T : Tx K mg) (as : List Av) : (fn_law_plus T).f as = runX (xs_law_plus T) false 0 as := by unfold fn_law_plus; rfl
theorem fnm_law_plus (T : Tx K mg) : (fn_law_plus T).m = 2 := by unfold fn_law_plus; rfl
theorem fno_law_plus (T : Tx K mg) : (fn_law_plus T).own = false := by unfold fn_law_plus; rfl
def xs_law_times (T : Tx K mg) : XS K := (.ret (.call (fn_law_lowest T) (fno_law_lowest T) (.cons false (.op O2.mul (.op O2.ixT (.var 0) (.int 0)) (.op O2.ixT (.var 1) (.int 0))) (.cons false (.op O2.mul (.op O2.ixT (.var 0) (.int 1)) (.op O2.ixT (.var 1) (.int 1))) .nil))))
def fn_law_times (T : Tx K mg) : Fn := ⟨2, false, fun as => runX (xs_law_times T) false 0 as⟩
theorem fnf_law_times (T : Tx K mg) (as : List Av) : (fn_law_times T).f as = runX (xs_law_times T) false 0 as := by unfold fn_law_times; rfl
theorem fnm_law_times (T : Tx K mg) : (fn_law_times T).m = 2 := by unfold fn_law_times; rfl
theorem fno_law_times (T : Tx K mg) : (fn_law_times T).own = false := by unfold fn_law_times; rfl
def xs_law_less (T : Tx K mg) : XS K := (.ret (.op O2.lt (.op O2.mul (.op O2.ixT (.var 0) (.int 0)) (.op O2.ixT (.var 1) (.int 1))) (.op O2.mul (.op O2.ixT (.var 1) (.int 0)) (.op O2.ixT (.var 0) (.int 1)))))
def fn_law_less (T : Tx K mg) : Fn := ⟨2, false, fun as => runX (xs_law_less T) false 0 as⟩
theorem fnf_law_less (T : Tx K mg) (as : List Av) : (fn_law_less T).f as = runX (xs_law_less T) false 0 as := by unfold fn_law_less; rfl
theorem fnm_law_less (T : Tx K mg) : (fn_law_less T).m = 2 := by unfold fn_law_less; rfl
theorem fno_law_less (T : Tx K mg) : (fn_law_less T).own = false := by unfold fn_law_less; rfl
def xb_law_added_1 (T : Tx K mg) : XS K := (.set 1 (.call (fn_law_plus T) (fno_law_plus T) (.cons false (.var 1) (.cons false (.var 2) .nil))))
def xs_law_added (T : Tx K mg) : XS K := (.seq (.set 1 (.tup (.cons false (.int 0) (.cons false (.int 1) .nil))))
    (.seq (.for_ (.list (.var 0)) (.name 2) (xb_law_added_1 T))
    (.ret (.var 1))))
def fn_law_added (T : Tx K mg) : Fn := ⟨1, false, fun as => runX (xs_law_added T) false 2 as⟩
theorem fnf_law_added (T : Tx K mg) (as : List Av) : (fn_law_added T).f as = runX (xs_law_added T) false 2 as := by unfold fn_law_added; rfl
theorem fnm_law_added (T : Tx K mg) : (fn_law_added T).m = 1 := by unfold fn_law_added; rfl
theorem fno_law_added (T : Tx K mg) : (fn_law_added T).own = false := by unfold fn_law_added; rfl
def xs_law_weighted (T : Tx K mg) : XS K := (.ret (.call (fn_law_added T) (fno_law_added T) (.cons false (XN.lc (.range1 (.cons false (.bi Bi.len (.cons true (.var 0) .nil)) .nil)) (.name 2) .yes (.call (fn_law_lowest T) (fno_law_lowest T) (.cons false (.op O2.mul (.op O2.ixL (.var 0) (.var 2)) (.op O2.ixT (.op O2.ixL (.var 1) (.var 2)) (.int 0))) (.cons false (.op O2.ixT (.op O2.ixL (.var 1) (.var 2)) (.int 1)) .nil))) [2]).e .nil)))
def fn_law_weighted (T : Tx K mg) : Fn := ⟨2, false, fun as => runX (xs_law_weighted T) false 1 as⟩
theorem fnf_law_weighted (T : Tx K mg) (as : List Av) : (fn_law_weighted T).f as = runX (xs_law_weighted T) false 1 as := by unfold fn_law_weighted; rfl
theorem fnm_law_weighted (T : Tx K mg) : (fn_law_weighted T).m = 2 := by unfold fn_law_weighted; rfl
theorem fno_law_weighted (T : Tx K mg) : (fn_law_weighted T).own = false := by unfold fn_law_weighted; rfl
def xb_law_drawn_1 (T : Tx K mg) : XS K := (.seq (.set 7 (.bi Bi.int (.cons false (.op O2.ixL (.var 0) (.op O2.add (.var 1) (.op O2.mod (.bi Bi.int (.cons false (.var 6) .nil)) (.int 16)))) .nil)))
    (.seq (.set 8 (XN.lc (.range1 (.cons false (.var 2) .nil)) (.name 10) .yes (.op O2.sub (.op O2.mod (.bi Bi.int (.cons false (.op O2.add (.op O2.ixL (.var 0) (.op O2.add (.op O2.add (.var 1) (.int 16)) (.op O2.mod (.bi Bi.int (.cons false (.op O2.add (.op O2.mul (.var 6) (.var 2)) (.var 10)) .nil)) (.int 60)))) (.op O2.mul (.int 31) (.var 6))) .nil)) (.op O2.add (.op O2.mul (.int 2) (.var 4)) (.int 1))) (.var 4)) [10]).e)
    (.seq (.ite (.test (.op O2.eq (.op O2.mod (.bi Bi.int (.cons false (.var 7) .nil)) (.int 3)) (.int 0)))
    (.set 8 (XN.lc (.list (.var 8)) (.name 11) .yes (.bi Bi.abs (.cons false (.var 11) .nil)) [11]).e)
    XS.nx)
    (.seq (.set 9 (.op O2.ixL (XN.lst (.cons false (.str (PySem.Str.ofString "least")) (.cons false (.str (PySem.Str.ofString "most")) (.cons false (.str (PySem.Str.ofString "least")) (.cons false (.str (PySem.Str.ofString "equal")) (.cons false (.str (PySem.Str.ofString "most")) .nil)))))).e (.op O2.mod (.op O2.div (.var 7) (.int 3)) (.int 5))))
    (.app 5 (.tup (.cons false (.var 8) (.cons false (.var 9) (.cons false (.op O2.sub (.op O2.mod (.bi Bi.int (.cons false (.op O2.div (.var 7) (.int 15)) .nil)) (.op O2.mul (.int 3) (.var 4))) (.var 4)) .nil)))))))))
def xs_law_drawn (T : Tx K mg) : XS K := (.seq (.setN 5 (.lst .nil))
    (.seq (.for_ (.range1 (.cons false (.var 3) .nil)) (.name 6) (xb_law_drawn_1 T))
    (.frz 5 (.ret (.var 5)))))
def fn_law_drawn (T : Tx K mg) : Fn := ⟨5, false, fun as => runX (xs_law_drawn T) false 7 as⟩
theorem fnf_law_drawn (T : Tx K mg) (as : List Av) : (fn_law_drawn T).f as = runX (xs_law_drawn T) false 7 as := by unfold fn_law_drawn; rfl
theorem fnm_law_drawn (T : Tx K mg) : (fn_law_drawn T).m = 5 := by unfold fn_law_drawn; rfl
theorem fno_law_drawn (T : Tx K mg) : (fn_law_drawn T).own = false := by unfold fn_law_drawn; rfl
def xs_law_fits (T : Tx K mg) : XS K := (.seq (.asg (.tup (.cons (.name 2) (.cons (.name 3) (.cons (.name 4) .nil)))) (.var 0))
    (.seq (.set 5 (.call (fn_law_weighted T) (fno_law_weighted T) (.cons false (.var 2) (.cons false (.var 1) .nil))))
    (.seq (.ite (.test (.op O2.eq (.var 3) (.str (PySem.Str.ofString "least"))))
    (.ret (.notV (.call (fn_law_less T) (fno_law_less T) (.cons false (.var 5) (.cons false (.tup (.cons false (.var 4) (.cons false (.int 1) .nil))) .nil)))))
    XS.nx)
    (.seq (.ite (.test (.op O2.eq (.var 3) (.str (PySem.Str.ofString "most"))))
    (.ret (.notV (.call (fn_law_less T) (fno_law_less T) (.cons false (.tup (.cons false (.var 4) (.cons false (.int 1) .nil))) (.cons false (.var 5) .nil)))))
    XS.nx)
    (.ret (.op O2.eqD (.var 5) (.tup (.cons false (.var 4) (.cons false (.int 1) .nil)))))))))
def fn_law_fits (T : Tx K mg) : Fn := ⟨2, false, fun as => runX (xs_law_fits T) false 4 as⟩
theorem fnf_law_fits (T : Tx K mg) (as : List Av) : (fn_law_fits T).f as = runX (xs_law_fits T) false 4 as := by unfold fn_law_fits; rfl
theorem fnm_law_fits (T : Tx K mg) : (fn_law_fits T).m = 2 := by unfold fn_law_fits; rfl
theorem fno_law_fits (T : Tx K mg) : (fn_law_fits T).own = false := by unfold fn_law_fits; rfl
def xs_law_solution (T : Tx K mg) : XS K := (.seq (.ite (.or (.test (.op O2.ne (.bi Bi.len (.cons true (.var 2) .nil)) (.var 0))) (.test (.op O2.gt (.bi Bi.len (.cons true (XN.lc (.list (.var 2)) (.name 4) (.test (.op O2.lt (.op O2.ixT (.var 4) (.int 0)) (.int 0))) (.int 1) [4]).e .nil)) (.int 0))))
    (.ret (.bool false))
    XS.nx)
    (.ret (.bi Bi.all (.cons true (XN.lc (.list (.var 1)) (.name 3) .yes (.call (fn_law_fits T) (fno_law_fits T) (.cons false (.var 3) (.cons false (.var 2) .nil))) [3]).e .nil))))
def fn_law_solution (T : Tx K mg) : Fn := ⟨3, false, fun as => runX (xs_law_solution T) false 2 as⟩
theorem fnf_law_solution (T : Tx K mg) (as : List Av) : (fn_law_solution T).f as = runX (xs_law_solution T) false 2 as := by unfold fn_law_solution; rfl
theorem fnm_law_solution (T : Tx K mg) : (fn_law_solution T).m = 3 := by unfold fn_law_solution; rfl
theorem fno_law_solution (T : Tx K mg) : (fn_law_solution T).own = false := by unfold fn_law_solution; rfl
def xb_law_fit_1 (T : Tx K mg) : XS K := (.ite (.or (.and (.test (.op O2.eq (.op O2.ixT (.op O2.ixL (.var 0) (.var 2)) (.int 1)) (.str (PySem.Str.ofString "least")))) (.test (.op O2.lt (.op O2.ixT (.op O2.ixL (.var 1) (.var 2)) (.int 0)) (.int 0)))) (.and (.test (.op O2.eq (.op O2.ixT (.op O2.ixL (.var 0) (.var 2)) (.int 1)) (.str (PySem.Str.ofString "most")))) (.test (.op O2.gt (.op O2.ixT (.op O2.ixL (.var 1) (.var 2)) (.int 0)) (.int 0)))))
    (.ret (.bool false))
    XS.nx)
def xs_law_fit (T : Tx K mg) : XS K := (.seq (.ite (.test (.op O2.ne (.bi Bi.len (.cons true (.var 1) .nil)) (.bi Bi.len (.cons true (.var 0) .nil))))
    (.ret (.bool false))
    XS.nx)
    (.seq (.for_ (.range1 (.cons false (.bi Bi.len (.cons true (.var 0) .nil)) .nil)) (.name 2) (xb_law_fit_1 T))
    (.ret (.bool true))))
def fn_law_fit (T : Tx K mg) : Fn := ⟨2, false, fun as => runX (xs_law_fit T) false 1 as⟩
theorem fnf_law_fit (T : Tx K mg) (as : List Av) : (fn_law_fit T).f as = runX (xs_law_fit T) false 1 as := by unfold fn_law_fit; rfl
theorem fnm_law_fit (T : Tx K mg) : (fn_law_fit T).m = 2 := by unfold fn_law_fit; rfl
theorem fno_law_fit (T : Tx K mg) : (fn_law_fit T).own = false := by unfold fn_law_fit; rfl
def xs_law_load (T : Tx K mg) : XS K := (.ret (.call (fn_law_weighted T) (fno_law_weighted T) (.cons false (XN.lc (.list (.var 0)) (.name 3) .yes (.op O2.ixL (.op O2.ixT (.var 3) (.int 0)) (.var 2)) [3]).e (.cons false (.var 1) .nil))))
def fn_law_load (T : Tx K mg) : Fn := ⟨3, false, fun as => runX (xs_law_load T) false 1 as⟩
theorem fnf_law_load (T : Tx K mg) (as : List Av) : (fn_law_load T).f as = runX (xs_law_load T) false 1 as := by unfold fn_law_load; rfl
theorem fnm_law_load (T : Tx K mg) : (fn_law_load T).m = 3 := by unfold fn_law_load; rfl
theorem fno_law_load (T : Tx K mg) : (fn_law_load T).own = false := by unfold fn_law_load; rfl
def xs_law_gain (T : Tx K mg) : XS K := (.ret (.call (fn_law_weighted T) (fno_law_weighted T) (.cons false (XN.lc (.list (.var 0)) (.name 2) .yes (.op O2.ixT (.var 2) (.int 2)) [2]).e (.cons false (.var 1) .nil))))
def fn_law_gain (T : Tx K mg) : Fn := ⟨2, false, fun as => runX (xs_law_gain T) false 1 as⟩
theorem fnf_law_gain (T : Tx K mg) (as : List Av) : (fn_law_gain T).f as = runX (xs_law_gain T) false 1 as := by unfold fn_law_gain; rfl
theorem fnm_law_gain (T : Tx K mg) : (fn_law_gain T).m = 2 := by unfold fn_law_gain; rfl
theorem fno_law_gain (T : Tx K mg) : (fn_law_gain T).own = false := by unfold fn_law_gain; rfl
def xs_law_some (T : Tx K mg) : XS K := (.seq (.set 3 (.op O2.sub (.op O2.mod (.bi Bi.int (.cons false (.op O2.ixL (.var 0) (.op O2.add (.var 1) (.op O2.mod (.bi Bi.int (.cons false (.var 2) .nil)) (.int 20)))) .nil)) (.int 13)) (.op O2.ixL (XN.lst (.cons false (.int 0) (.cons false (.int 4) (.cons false (.int 8) .nil)))).e (.op O2.mod (.bi Bi.int (.cons false (.op O2.ixL (.var 0) (.op O2.add (.var 1) (.op O2.mod (.bi Bi.int (.cons false (.op O2.add (.var 2) (.int 7)) .nil)) (.int 20)))) .nil)) (.int 3)))))
    (.ret (.call (fn_law_lowest T) (fno_law_lowest T) (.cons false (.var 3) (.cons false (.op O2.add (.int 1) (.op O2.mod (.op O2.div (.bi Bi.int (.cons false (.op O2.ixL (.var 0) (.op O2.add (.var 1) (.op O2.mod (.bi Bi.int (.cons false (.op O2.add (.var 2) (.int 3)) .nil)) (.int 20)))) .nil)) (.int 13)) (.int 4))) .nil)))))
def fn_law_some (T : Tx K mg) : Fn := ⟨3, false, fun as => runX (xs_law_some T) false 1 as⟩
theorem fnf_law_some (T : Tx K mg) (as : List Av) : (fn_law_some T).f as = runX (xs_law_some T) false 1 as := by unfold fn_law_some; rfl
theorem fnm_law_some (T : Tx K mg) : (fn_law_some T).m = 3 := by unfold fn_law_some; rfl
theorem fno_law_some (T : Tx K mg) : (fn_law_some T).own = false := by unfold fn_law_some; rfl
def xu_law_refused (T : Tx K mg) (a : Addr) (cls : Value) (d : Option Addr) : XS K := (.ret (.tup (.cons false (.isX 3 a cls d T.c_WrongSize T.kn T.kn_is) (.cons false (.errAt 3 a cls d T.kn T.kn_at) .nil))))
theorem xhp_law_refused (T : Tx K mg) : ∀ (a d C : Addr) (n : Int) (st : List Sv), mute ((xu_law_refused T a (.ref C) (some d)).ev (st.set 3 (.er a d n))) = mute ((xu_law_refused T 0 (.ref C) (some 0)).ev (st.set 3 (.er 0 0 n))) := by
  intro a d C n st
  unfold xu_law_refused
  by_cases hi : 3 < st.length
  · by_cases hk : C ∈ T.kn
    · cases hb : PySem.W.kitOne K (.ref C) (.ref T.c_WrongSize) with
      | none => simp [XS.ret, XE.tup, XE.of, XA.dev, XA.cons, XA.nil, XE.av, XE.isX, XE.errAt, hi, hk, hb, Rs.bind, Rs.oc, Rs.of, mute]
      | some b => simp [XS.ret, XE.tup, XE.of, XA.dev, XA.cons, XA.nil, XE.av, XE.isX, XE.errAt, hi, hk, hb, Rs.bind, Rs.oc, Rs.of, mute, avD]
    · simp [XS.ret, XE.tup, XE.of, XA.dev, XA.cons, XA.nil, XE.av, XE.isX, XE.errAt, hi, hk, Rs.bind, Rs.oc, mute]
  · simp [XS.ret, XE.tup, XE.of, XA.dev, XA.cons, XA.nil, XE.av, XE.isX, XE.errAt, hi, Rs.bind, Rs.oc, mute]
def xh_law_refused (T : Tx K mg) : XH K 3 := XH.of 3 (xu_law_refused T) (fun C n st => mute ((xu_law_refused T 0 (.ref C) (some 0)).ev (st.set 3 (.er 0 0 n)))) (xhp_law_refused T)
def xs_law_refused (T : Tx K mg) : XS K := (.seq (.try_ 3 T.c_WebError (.ite (.test (.op O2.eq (.var 0) (.int 0)))
    (.drop (XN.call (fn_loads T) (fno_loads T) (.cons false (.var 1) (.cons false (.var 2) .nil))).e)
    (.drop (.call (fn_gain T) (fno_gain T) (.cons false (.var 1) (.cons false (.var 2) .nil))))) (xh_law_refused T))
    (.ret .non))
def fn_law_refused (T : Tx K mg) : Fn := ⟨3, false, fun as => runX (xs_law_refused T) false 1 as⟩
theorem fnf_law_refused (T : Tx K mg) (as : List Av) : (fn_law_refused T).f as = runX (xs_law_refused T) false 1 as := by unfold fn_law_refused; rfl
theorem fnm_law_refused (T : Tx K mg) : (fn_law_refused T).m = 3 := by unfold fn_law_refused; rfl
theorem fno_law_refused (T : Tx K mg) : (fn_law_refused T).own = false := by unfold fn_law_refused; rfl
def xb_law_signed_1 (T : Tx K mg) : XS K := (.seq (.ite (.test (.op O2.eq (.op O2.ixT (.var 3) (.int 1)) (.str (PySem.Str.ofString "least"))))
    (.set 4 (.tup (.cons false (.bi Bi.abs (.cons false (.op O2.ixT (.var 4) (.int 0)) .nil)) (.cons false (.op O2.ixT (.var 4) (.int 1)) .nil))))
    XS.nx)
    (.seq (.ite (.test (.op O2.eq (.op O2.ixT (.var 3) (.int 1)) (.str (PySem.Str.ofString "most"))))
    (.set 4 (.tup (.cons false (.neg (.bi Bi.abs (.cons false (.op O2.ixT (.var 4) (.int 0)) .nil))) (.cons false (.op O2.ixT (.var 4) (.int 1)) .nil))))
    XS.nx)
    (.app 2 (.var 4))))
def xs_law_signed (T : Tx K mg) : XS K := (.seq (.setN 2 (.lst .nil))
    (.seq (.for_ (.zip (.var 0) (.var 1)) (.tup (.cons (.name 3) (.cons (.name 4) .nil))) (xb_law_signed_1 T))
    (.frz 2 (.ret (.var 2)))))
def fn_law_signed (T : Tx K mg) : Fn := ⟨2, false, fun as => runX (xs_law_signed T) false 3 as⟩
theorem fnf_law_signed (T : Tx K mg) (as : List Av) : (fn_law_signed T).f as = runX (xs_law_signed T) false 3 as := by unfold fn_law_signed; rfl
theorem fnm_law_signed (T : Tx K mg) : (fn_law_signed T).m = 2 := by unfold fn_law_signed; rfl
theorem fno_law_signed (T : Tx K mg) : (fn_law_signed T).own = false := by unfold fn_law_signed; rfl
def xb_law_1 (T : Tx K mg) : XS K := (.ite (.test (.op O2.ne (.bi Bi.len (.cons true (.var 11) .nil)) (.bi Bi.len (.cons true (.var 4) .nil))))
    (.seq (.ite (.test (.op O2.notB (.call (fn_are_fit T) (fno_are_fit T) (.cons false (.var 5) (.cons false (.var 11) .nil))) (.bool false)))
    (.ret (.bool false))
    XS.nx)
    (.ite (.or (.test (.op O2.neD (.call (fn_law_refused T) (fno_law_refused T) (.cons false (.int 0) (.cons false (.var 5) (.cons false (.var 11) .nil)))) (.tup (.cons false (.bool true) (.cons false (.int 0) .nil))))) (.test (.op O2.neD (.call (fn_law_refused T) (fno_law_refused T) (.cons false (.int 1) (.cons false (.var 5) (.cons false (.var 11) .nil)))) (.tup (.cons false (.bool true) (.cons false (.int 0) .nil))))))
    (.ret (.bool false))
    XS.nx))
    XS.nx)
def xb_law_2 (T : Tx K mg) : XS K := (.seq (.set 7 (XN.lc (.range1 (.cons false (.bi Bi.len (.cons true (.var 4) .nil)) .nil)) (.name 15) .yes (.call (fn_law_some T) (fno_law_some T) (.cons false (.var 1) (.cons false (.int 100) (.cons false (.op O2.add (.op O2.mul (.int 3) (.var 6)) (.var 15)) .nil)))) [15]).e)
    (.seq (.ite (.test (.op O2.gt (.var 6) (.int 1)))
    (.set 7 (.call (fn_law_signed T) (fno_law_signed T) (.cons false (.var 4) (.cons false (.var 7) .nil))))
    XS.nx)
    (.seq (.set 8 (.bi Bi.repr (.cons false (.var 7) .nil)))
    (.seq (.set 9 (XN.lc (.range1 (.cons false (.var 2) .nil)) (.name 14) .yes (.call (fn_law_load T) (fno_law_load T) (.cons false (.var 4) (.cons false (.var 7) (.cons false (.var 14) .nil)))) [14]).e)
    (.seq (.setN 10 (.call (fn_loads T) (fno_loads T) (.cons false (.var 5) (.cons false (.var 7) .nil))))
    (.seq (.ite (.or (.test (.op O2.neL (.var 10) (.var 9))) (.or (.test (.op O2.neD (.call (fn_gain T) (fno_gain T) (.cons false (.var 5) (.cons false (.var 7) .nil))) (.call (fn_law_gain T) (fno_law_gain T) (.cons false (.var 4) (.cons false (.var 7) .nil))))) (.test (.op O2.ne (.bi Bi.repr (.cons false (.var 7) .nil)) (.var 8)))))
    (.ret (.bool false))
    XS.nx)
    (.seq (.app 10 (.int 1))
    (.seq (.ite (.test (.op O2.neD (.call (fn_are_fit T) (fno_are_fit T) (.cons false (.var 5) (.cons false (.var 7) .nil))) (.call (fn_law_fit T) (fno_law_fit T) (.cons false (.var 4) (.cons false (.var 7) .nil)))))
    (.ret (.bool false))
    XS.nx)
    (.seq (.for_ (.list (XN.lst (.cons false (XN.op O2N.cat (.var 7) (XN.lst (.cons false (.tup (.cons false (.int 1) (.cons false (.int 2) .nil))) .nil)).e).e (.cons false (XN.sl (.var 7) (.some (.int 1)) .none).e .nil))).e) (.name 11) (xb_law_1 T))
    (.seq (.set 12 (XN.lc (.range1 (.cons false (.var 2) .nil)) (.name 14) .yes (.call (fn_law_some T) (fno_law_some T) (.cons false (.var 1) (.cons false (.int 120) (.cons false (.op O2.add (.op O2.mul (.int 7) (.var 6)) (.var 14)) .nil)))) [14]).e)
    (.seq (.set 12 (XN.lc (.list (.var 12)) (.name 16) .yes (.tup (.cons false (.bi Bi.abs (.cons false (.op O2.ixT (.var 16) (.int 0)) .nil)) (.cons false (.op O2.ixT (.var 16) (.int 1)) .nil))) [16]).e)
    (.ite (.and (.B (.call (fn_law_fit T) (fno_law_fit T) (.cons false (.var 4) (.cons false (.var 7) .nil)))) (.B (.call (fn_law_solution T) (fno_law_solution T) (.cons false (.var 2) (.cons false (.var 4) (.cons false (.var 12) .nil))))))
    (.seq (.set 13 (.call (fn_law_added T) (fno_law_added T) (.cons false (XN.lc (.zip (.var 9) (.var 12)) (.tup (.cons (.name 17) (.cons (.name 18) .nil))) .yes (.call (fn_law_times T) (fno_law_times T) (.cons false (.var 17) (.cons false (.var 18) .nil))) [17, 18]).e .nil)))
    (.ite (.B (.call (fn_law_less T) (fno_law_less T) (.cons false (.var 13) (.cons false (.call (fn_gain T) (fno_gain T) (.cons false (.var 5) (.cons false (.var 7) .nil))) .nil))))
    (.ret (.bool false))
    XS.nx))
    XS.nx))))))))))))
def xs_law (T : Tx K mg) : XS K := (.seq (.set 1 (.call (fn_law_numbers T) (fno_law_numbers T) (.cons false (.var 0) (.cons false (.int 160) .nil))))
    (.seq (.set 2 (.op O2.add (.int 1) (.op O2.mod (.bi Bi.int (.cons false (.op O2.ixL (.var 1) (.int 0)) .nil)) (.int 5))))
    (.seq (.set 3 (XN.lc (.range1 (.cons false (.var 2) .nil)) (.name 14) .yes (.op O2.sub (.op O2.mod (.bi Bi.int (.cons false (.op O2.ixL (.var 1) (.op O2.add (.int 10) (.var 14))) .nil)) (.int 9)) (.int 4)) [14]).e)
    (.seq (.set 4 (.call (fn_law_drawn T) (fno_law_drawn T) (.cons false (.var 1) (.cons false (.int 20) (.cons false (.var 2) (.cons false (.op O2.mod (.bi Bi.int (.cons false (.op O2.ixL (.var 1) (.int 1)) .nil)) (.int 7)) (.cons false (.int 4) .nil)))))))
    (.seq (.set 5 (.make T.c_Program (fn_Program___init__ T) (.cons false (.var 3) (.cons false (.var 4) .nil))))
    (.seq (.for_ (.range1 (.cons false (.int 5) .nil)) (.name 6) (xb_law_2 T))
    (.ret (.bool true))))))))
def fn_law (T : Tx K mg) : Fn := ⟨1, false, fun as => runX (xs_law T) false 18 as⟩
theorem fnf_law (T : Tx K mg) (as : List Av) : (fn_law T).f as = runX (xs_law T) false 18 as := by unfold fn_law; rfl
theorem fnm_law (T : Tx K mg) : (fn_law T).m = 1 := by unfold fn_law; rfl
theorem fno_law (T : Tx K mg) : (fn_law T).own = false := by unfold fn_law; rfl
end
end Q

set_option Elab.async false
set_option linter.all false
set_option maxRecDepth 100000
set_option maxHeartbeats 4000000
namespace Q
open PySem PySem.Spec PyProof.Rows L2 Z R
local macro_rules | `(tactic| walk_at "ds") => `(tactic| first | assumption | decide | omega | exact ⟨by decide, by decide⟩ | exact ⟨by omega, by omega⟩ | exact div_lit ⟨by omega, by omega⟩ | exact mul_r (by omega) | exact mul_l (by omega))
local macro_rules | `(tactic| walk_at "ev") => `(tactic| simp (disch := walk_at "ds") only [bind_ok, bind_ex, bind_no, oc_k, oc_x, oc_n, of_some, of_none, okV_ok, okV_ex, okV_no, bOf_b, iOf_i, asL_l, asS_l, asS_s, lOf_l, var_ev, var_el, var_es, int_ev, bool_ev, non_ev, str_ev, av_f, av_t, op_ev, op_el, op_es, opN_ev, e_ev, e_el, e_es, neg_ev, bv_eq, iv_eq, andV_ev, orV_ev, notV_ev, ife_ev, ife_el, ife_es, chain_ev, inK_ev, setfld_ev, tup_ev, dev_eq, avD_nil, avD_cons, lst_ev, anil_ev, acons_ev, bi_ev, biN_ev, call_ev, call_el, call_es, callN_ev, meth_ev, meth_el, meth_es, methN_ev, make_ev, fld_ev, fld_el, fld_es, test_ev, B_ev, and_ev, or_ev, not_ev, truthL_ev, ifeT_ev, yes_ev, onone_ev, osome_ev, sl_ev, slS_ev, lend_ev, blank_ev, ilist_ev, irng1_ev, irng2_ev, avI1_i, avI2_i, ienum_ev, izip_ev, gname_ev, gnil_ev, gcons_ev, gtup_ev, glst_ev, lc_ev, nx_ev, brk_ev, cnt_ev, seq_ev, set_ev, setN_ev, asg_ev, par_ev, aug_ev, seti_ev, app_ev, ite_ev, ret_ev, retN_ev, retO_ev, retV_ev, drop_ev, frz_ev, for_ev, lp_nil, raise_ev, try_ev, add_ka, add_kb, add_f, sub_ka, sub_kb, sub_f, band_ka, band_kb, band_f, lt_ka, lt_kb, lt_f, le_ka, le_kb, le_f, gt_ka, gt_kb, gt_f, ge_ka, ge_kb, ge_f, mul_ka, mul_kb, div_ka, div_kb, divU_ka, divU_kb, mod_ka, mod_kb, pow_ka, pow_kb, shl_ka, shl_kb, shr_ka, shr_kb, eq_ka, eq_kb, ne_ka, ne_kb, eqD_ka, eqD_kb, neD_ka, neD_kb, isN_ka, isN_kb, notN_ka, notN_kb, isB_ka, isB_kb, notB_ka, notB_kb, ixS_ka, ixS_kb, ixT_ka, ixT_kb, neL_ka, neL_kb, ixL_ka, ixL_kb, inL_ka, inL_kb, notInL_ka, notInL_kb, cat_ka, cat_kb, rep_ka, rep_kb, eq_i, eq_s, ne_i, ne_s, isB_f, notB_f, isN_f, notN_f, ixL_f, ixT_f, ixS_f, len_f, lenS_f, abs_f, min2_f, max2_f, int_f, intB_f, gcd_f, listN_f, runX_eq, res_rt, res_ro, res_nx, res_xc, at0, at1, at2, rng_if, lcL_nil, mul_f, div_f, divU_f, mod_f, pow_f, shl_f, shr_f, cat_f, lcm_f, repr_f, List.getElem?_cons_zero, List.getElem?_cons_succ, List.set_cons_zero, List.set_cons_succ, List.length_cons, List.length_nil, Nat.reduceAdd, Nat.reduceLT, Nat.reduceLeDiff, Nat.reduceEqDiff, if_true, if_false, Option.map_some, Option.map_none, Option.bind_some, Option.bind_none, reduceIte, decide_true, decide_false, R.start, avS, R.frz, at0, at1, at2, allXb, Sv.isX, List.all_cons, List.all_nil, Bool.and_true, Bool.true_and, Bool.and_false, Bool.false_and, List.flatten_cons, List.map_cons, List.map_nil, List.cons_append, List.nil_append, List.replicate_succ, List.replicate_zero, Bool.not_true, Bool.not_false, Nat.reduceMul, Nat.reduceSub, Nat.zero_add, and_self, and_true, true_and, and_false, false_and])
local macro_rules | `(tactic| walk_at "evh") => `(tactic| simp (disch := walk_at "ds") only [bind_ok, bind_ex, bind_no, oc_k, oc_x, oc_n, of_some, of_none, okV_ok, okV_ex, okV_no, bOf_b, iOf_i, asL_l, asS_l, asS_s, lOf_l, var_ev, var_el, var_es, int_ev, bool_ev, non_ev, str_ev, av_f, av_t, op_ev, op_el, op_es, opN_ev, e_ev, e_el, e_es, neg_ev, bv_eq, iv_eq, andV_ev, orV_ev, notV_ev, ife_ev, ife_el, ife_es, chain_ev, inK_ev, setfld_ev, tup_ev, dev_eq, avD_nil, avD_cons, lst_ev, anil_ev, acons_ev, bi_ev, biN_ev, call_ev, call_el, call_es, callN_ev, meth_ev, meth_el, meth_es, methN_ev, make_ev, fld_ev, fld_el, fld_es, test_ev, B_ev, and_ev, or_ev, not_ev, truthL_ev, ifeT_ev, yes_ev, onone_ev, osome_ev, sl_ev, slS_ev, lend_ev, blank_ev, ilist_ev, irng1_ev, irng2_ev, avI1_i, avI2_i, ienum_ev, izip_ev, gname_ev, gnil_ev, gcons_ev, gtup_ev, glst_ev, lc_ev, nx_ev, brk_ev, cnt_ev, seq_ev, set_ev, setN_ev, asg_ev, par_ev, aug_ev, seti_ev, app_ev, ite_ev, ret_ev, retN_ev, retO_ev, retV_ev, drop_ev, frz_ev, for_ev, lp_nil, raise_ev, try_ev, add_ka, add_kb, add_f, sub_ka, sub_kb, sub_f, band_ka, band_kb, band_f, lt_ka, lt_kb, lt_f, le_ka, le_kb, le_f, gt_ka, gt_kb, gt_f, ge_ka, ge_kb, ge_f, mul_ka, mul_kb, div_ka, div_kb, divU_ka, divU_kb, mod_ka, mod_kb, pow_ka, pow_kb, shl_ka, shl_kb, shr_ka, shr_kb, eq_ka, eq_kb, ne_ka, ne_kb, eqD_ka, eqD_kb, neD_ka, neD_kb, isN_ka, isN_kb, notN_ka, notN_kb, isB_ka, isB_kb, notB_ka, notB_kb, ixS_ka, ixS_kb, ixT_ka, ixT_kb, neL_ka, neL_kb, ixL_ka, ixL_kb, inL_ka, inL_kb, notInL_ka, notInL_kb, cat_ka, cat_kb, rep_ka, rep_kb, eq_i, eq_s, ne_i, ne_s, isB_f, notB_f, isN_f, notN_f, ixL_f, ixT_f, ixS_f, len_f, lenS_f, abs_f, min2_f, max2_f, int_f, intB_f, gcd_f, listN_f, runX_eq, res_rt, res_ro, res_nx, res_xc, at0, at1, at2, rng_if, lcL_nil, mul_f, div_f, divU_f, mod_f, pow_f, shl_f, shr_f, cat_f, lcm_f, repr_f, List.getElem?_cons_zero, List.getElem?_cons_succ, List.set_cons_zero, List.set_cons_succ, List.length_cons, List.length_nil, Nat.reduceAdd, Nat.reduceLT, Nat.reduceLeDiff, Nat.reduceEqDiff, if_true, if_false, Option.map_some, Option.map_none, Option.bind_some, Option.bind_none, reduceIte, decide_true, decide_false, R.start, avS, R.frz, at0, at1, at2, allXb, Sv.isX, List.all_cons, List.all_nil, Bool.and_true, Bool.true_and, Bool.and_false, Bool.false_and, List.flatten_cons, List.map_cons, List.map_nil, List.cons_append, List.nil_append, List.replicate_succ, List.replicate_zero, Bool.not_true, Bool.not_false, Nat.reduceMul, Nat.reduceSub, Nat.zero_add, and_self, and_true, true_and, and_false, false_and, *])
variable {K : PySem.W.Frag} {mg : Str → Option Value} (T : Tx K mg)
theorem rowOk_is {m : Nat} {d : PyData} (h : rowOk m d = true) : ∃ ns rel b, d = .tuple [.list ns, .str rel, b] ∧ ns.length = m ∧ rel ∈ [PySem.Str.ofString "least", PySem.Str.ofString "most", PySem.Str.ofString "equal"] := by
  unfold rowOk at h
  split at h
  · rename_i ns rel b
    rw [Bool.and_eq_true, decide_eq_true_eq, decide_eq_true_eq] at h
    exact ⟨ns, rel, b, rfl, h.1, h.2⟩
  · cases h
theorem run_Program___init__ (xs : List Av) (hn : (fn_Program___init__ T).f xs ≠ .no) (a : Addr) : runI (xs_Program___init__ T) T.c_Program a 5 xs = (fn_Program___init__ T).f xs := by
  rw [fnif_Program] at hn ⊢
  unfold progF at hn ⊢
  split at hn
  · rename_i ps rs
    split at hn
    · rename_i hc
      obtain ⟨⟨h1, h2⟩, h3, h4⟩ := hc
      have hc' : (1 ≤ ps.length ∧ ps.length ≤ 40) ∧ rs.length ≤ 80 ∧ rs.all (rowOk ps.length) = true := ⟨⟨h1, h2⟩, h3, h4⟩
      rw [if_pos hc']
      have hrow : ∀ r ∈ rs, ∃ ns rel b, r = .tuple [.list ns, .str rel, b] ∧ ns.length = ps.length ∧ rel ∈ [PySem.Str.ofString "least", PySem.Str.ofString "most", PySem.Str.ofString "equal"] := fun r hr => rowOk_is (List.all_eq_true.mp h4 r hr)
      have d1 : decide ((1 : Int) ≤ ((ps.length : Nat) : Int)) = true := decide_eq_true (by omega)
      have d2 : decide (((ps.length : Nat) : Int) ≤ 40) = true := decide_eq_true (by omega)
      have d3 : decide ((80 : Int) < ((rs.length : Nat) : Int)) = false := decide_eq_false (by omega)
      have hl3 : rs.length ≤ 100000 := by omega
      have hlc : ∀ z3 z6 : Sv, lcL (K := K) (.tup (.cons (.name 4) (.cons (.name 5) (.cons (.name 7) .nil)))) .yes (.tup (.cons false (XN.bi BiN.list (.cons true (.var 4) .nil)).e (.cons false (.var 5) (.cons false (.var 7) .nil)))) [.oi T.c_Program a [("_prices", .list ps)], .v (.d (.list ps)), .v (.d (.list rs)), z3, .x, .x, z6, .x] rs = some rs := by
        intro z3 z6
        have := lcL_map (K := K) (g := .tup (.cons (.name 4) (.cons (.name 5) (.cons (.name 7) .nil)))) (t := .yes) (e := .tup (.cons false (XN.bi BiN.list (.cons true (.var 4) .nil)).e (.cons false (.var 5) (.cons false (.var 7) .nil)))) (st := [.oi T.c_Program a [("_prices", .list ps)], .v (.d (.list ps)), .v (.d (.list rs)), z3, .x, .x, z6, .x]) (en := id) (f := id) (xs := rs) (fun r hr => by
          obtain ⟨ns, rel, b, rfl, e1, e2⟩ := hrow r hr
          rw [lcOne_eq]
          clear hrow h1 h2 h3 h4 hc' hn d1 d2 d3 hl3 e1 e2 hr
          show Option.bind _ _ = _
          simp only [id]
          walk_at "ev")
        rw [List.map_id] at this
        exact this
      have hg : ((XG.tup (.cons (.name 4) (.cons (.name 5) (.cons (.name 7) .nil))) : XG K).T.all fun i => decide (i ∈ [4, 5, 7])) = true := rfl
      have he : enumD rs = rs.zipIdx.map fun p => .tuple [.int ((p.2 : Nat) : Int), p.1] := rfl
      obtain ⟨y, ⟨y4, y5⟩, hl⟩ := lp_ex (K := K) (g := .tup (.cons (.name 3) (.cons (.tup (.cons (.name 4) (.cons (.name 5) (.cons (.name 6) .nil)))) .nil))) (s := xb_Program___init___1 T) (en := fun p : PyData × Nat => .tuple [.int ((p.2 : Nat) : Int), p.1]) (xs := rs.zipIdx) (fun y : Sv × Sv × Sv × Sv => [.oi T.c_Program a [], .v (.d (.list ps)), .v (.d (.list rs)), y.1, y.2.1, y.2.2.1, y.2.2.2, .x]) (fun pre y => (y.2.1 = .x ∨ ∃ a, y.2.1 = .v a) ∧ (y.2.2.1 = .x ∨ ∃ a, y.2.2.1 = .v a)) (x0 := (.x, .x, .x, .x)) ⟨.inl rfl, .inl rfl⟩ (by
        rintro pre ⟨r, k⟩ post ⟨z3, z4, z5, z6⟩ e -
        have hr : r ∈ rs := List.fst_mem_of_mem_zipIdx (show (r, k) ∈ rs.zipIdx by rw [e]; simp)
        obtain ⟨ns, rel, b, rfl, e1, e2⟩ := hrow r hr
        have d4 : decide (((ns.length : Nat) : Int) = ((ps.length : Nat) : Int)) = true := decide_eq_true (by omega)
        have d5 : decide (rel ∈ [PySem.Str.ofString "least", PySem.Str.ofString "most", PySem.Str.ofString "equal"]) = true := decide_eq_true e2
        refine ⟨(.v (.d (.int (k : Int))), .v (.d (.list ns)), .v (.d (.str rel)), .v (.d b)), ⟨.inr ⟨_, rfl⟩, .inr ⟨_, rfl⟩⟩, _, by walk_at "ev"; rfl, .inl ?_⟩
        unfold xb_Program___init___1
        clear hrow h1 h2 h3 h4 hc' hn d1 d2 d3 hl3 e1 e2 hr hlc e hg he
        walk_at "evh")
      obtain ⟨z3, z4, z5, z6⟩ := y
      have fin : (xs_Program___init__ T).ev (startI T.c_Program a [.v (.d (.list ps)), .v (.d (.list rs))] 5) = .nx [.oi T.c_Program a [("_prices", .list ps), ("_rows", .list rs)], .v (.d (.list ps)), .v (.d (.list rs)), z3, z4, z5, z6, .x] := by
        unfold xs_Program___init__ startI
        refine run_nx (ite_f (by clear d3 hrow h1 h2 h3 h4 hc' hn hlc hl; walk_at "evh") rfl) (run_nx (ite_f (by clear d1 d2 hrow h1 h2 h3 h4 hc' hn hlc hl; walk_at "evh") rfl) (run_nx (for_nx (ds := enumD rs) (by clear d1 d2 d3 hrow h1 h2 h3 h4 hc' hn hlc hl; walk_at "ev") hl) (run_nx (st1 := [.oi T.c_Program a [("_prices", .list ps)], .v (.d (.list ps)), .v (.d (.list rs)), z3, z4, z5, z6, .x]) ?_ ?_)))
        · clear d1 d2 d3 hrow h1 h2 h3 h4 hc' hn hlc hl hg he hl3 y4 y5
          rw [setfld_ev]
          simp only [List.getElem?_cons_zero]
          rw [if_pos ⟨trivial, rfl, by decide⟩]
          walk_at "ev"
        · rcases y4 with y4 | ⟨w4, y4⟩ <;> rcases y5 with y5 | ⟨w5, y5⟩
          all_goals
            have y4 : z4 = _ := y4
            have y5 : z5 = _ := y5
            subst y4
            subst y5
            have hlc := hlc z3 z6
            clear d1 d2 d3 hrow h1 h2 h3 h4 hc' hn hl he
            rw [setfld_ev]
            simp only [List.getElem?_cons_zero]
            rw [if_pos ⟨trivial, rfl, by show 1 < 1000; decide⟩]
            walk_at "evh"
      unfold runI
      rw [fin]
      show (if T.c_Program = T.c_Program ∧ a = a then _ else _) = _
      rw [if_pos ⟨rfl, rfl⟩]
    · exact absurd rfl hn
  · exact absurd rfl hn
end Q

/-! fractions in lowest terms: plain mathematics -/
set_option linter.all false
namespace QF
def gI (p q : Int) : Int := ((Nat.gcd p.natAbs q.natAbs : Nat) : Int)
theorem gI_dl (p q : Int) : gI p q ∣ p := Int.natAbs_dvd_natAbs.mp (by show (gI p q).natAbs ∣ _; unfold gI; rw [Int.natAbs_natCast]; exact Nat.gcd_dvd_left _ _)
theorem gI_dr (p q : Int) : gI p q ∣ q := Int.natAbs_dvd_natAbs.mp (by show (gI p q).natAbs ∣ _; unfold gI; rw [Int.natAbs_natCast]; exact Nat.gcd_dvd_right _ _)
theorem gI_pos {p q : Int} (h : q ≠ 0) : 0 < gI p q := by
  unfold gI
  have : 0 < Nat.gcd p.natAbs q.natAbs := Nat.gcd_pos_of_pos_right _ (Int.natAbs_pos.mpr h)
  omega
theorem gI_le {p q : Int} (h : q ≠ 0) : gI p q ≤ (q.natAbs : Int) := by
  unfold gI
  have : Nat.gcd p.natAbs q.natAbs ≤ q.natAbs := Nat.le_of_dvd (Int.natAbs_pos.mpr h) (Nat.gcd_dvd_right _ _)
  omega
/-- p / q in lowest terms, the denominator above 0 -/
def low (p q : Int) : Int × Int := if q < 0 then (-p / gI p q, -q / gI p q) else (p / gI p q, q / gI p q)
structure IsF (x : Int × Int) : Prop where
  pos : 0 < x.2
  cop : Nat.gcd x.1.natAbs x.2.natAbs = 1
theorem low_val {p q : Int} (h : q ≠ 0) : (low p q).1 * q = p * (low p q).2 := by
  obtain ⟨a, ha⟩ := gI_dl p q
  obtain ⟨b, hb⟩ := gI_dr p q
  have g0 := gI_pos (p := p) h
  have hg : gI p q ≠ 0 := by omega
  unfold low
  generalize gI p q = g at *
  split
  · show -p / g * q = p * (-q / g)
    have e1 : -p / g = -a := by rw [ha, ← Int.mul_neg, Int.mul_ediv_cancel_left _ hg]
    have e2 : -q / g = -b := by rw [hb, ← Int.mul_neg, Int.mul_ediv_cancel_left _ hg]
    rw [e1, e2, ha, hb]
    grind
  · show p / g * q = p * (q / g)
    have e1 : p / g = a := by rw [ha, Int.mul_ediv_cancel_left _ hg]
    have e2 : q / g = b := by rw [hb, Int.mul_ediv_cancel_left _ hg]
    rw [e1, e2, ha, hb]
    grind
theorem low_is {p q : Int} (h : q ≠ 0) : IsF (low p q) := by
  have g0 := gI_pos (p := p) h
  have hd1 := gI_dl p q
  have hd2 := gI_dr p q
  have hgcd : ∀ x y : Int, x.natAbs = p.natAbs → y.natAbs = q.natAbs → Nat.gcd (x / gI p q).natAbs (y / gI p q).natAbs = 1 := by
    intro x y hx hy
    have dx : gI p q ∣ x := Int.natAbs_dvd_natAbs.mp (by rw [hx]; exact Int.natAbs_dvd_natAbs.mpr hd1)
    have dy : gI p q ∣ y := Int.natAbs_dvd_natAbs.mp (by rw [hy]; exact Int.natAbs_dvd_natAbs.mpr hd2)
    rw [Int.natAbs_ediv_of_dvd dx, Int.natAbs_ediv_of_dvd dy, hx, hy]
    have : (gI p q).natAbs = Nat.gcd p.natAbs q.natAbs := by unfold gI; rw [Int.natAbs_natCast]
    rw [this]
    exact Nat.coprime_div_gcd_div_gcd (Nat.gcd_pos_of_pos_right _ (Int.natAbs_pos.mpr h))
  unfold low
  split
  · refine ⟨?_, hgcd _ _ (Int.natAbs_neg _) (Int.natAbs_neg _)⟩
    show 0 < -q / gI p q
    have d : gI p q ∣ -q := (Int.dvd_neg).mpr hd2
    exact Int.ediv_pos_of_pos_of_dvd (by omega) (by omega) d
  · refine ⟨?_, hgcd _ _ rfl rfl⟩
    show 0 < q / gI p q
    exact Int.ediv_pos_of_pos_of_dvd (by omega) (by omega) hd2
theorem isF_ext {x y : Int × Int} (hx : IsF x) (hy : IsF y) (h : x.1 * y.2 = y.1 * x.2) : x = y := by
  have hn : x.1.natAbs * y.2.natAbs = y.1.natAbs * x.2.natAbs := by rw [← Int.natAbs_mul, ← Int.natAbs_mul, h]
  have d1 : x.2.natAbs ∣ y.2.natAbs := Nat.Coprime.dvd_of_dvd_mul_left (k := x.2.natAbs) (m := x.1.natAbs) (by rw [Nat.coprime_comm]; exact hx.cop) ⟨y.1.natAbs, by rw [hn, Nat.mul_comm]⟩
  have d2 : y.2.natAbs ∣ x.2.natAbs := Nat.Coprime.dvd_of_dvd_mul_left (k := y.2.natAbs) (m := y.1.natAbs) (by rw [Nat.coprime_comm]; exact hy.cop) ⟨x.1.natAbs, by rw [← hn, Nat.mul_comm]⟩
  have e := Nat.dvd_antisymm d1 d2
  have p1 := hx.pos
  have p2 := hy.pos
  have e2 : x.2 = y.2 := by omega
  have e1 : x.1 = y.1 := by
    rw [e2] at h
    exact Int.eq_of_mul_eq_mul_right (by omega) h
  exact Prod.ext e1 e2
theorem low_ext {p q p' q' : Int} (h : q ≠ 0) (h' : q' ≠ 0) (e : p * q' = p' * q) : low p q = low p' q' := by
  refine isF_ext (low_is h) (low_is h') ?_
  have v1 := low_val (p := p) h
  have v2 := low_val (p := p') h'
  refine Int.eq_of_mul_eq_mul_right h (Int.eq_of_mul_eq_mul_right h' ?_)
  generalize (low p q).1 = a at *
  generalize (low p q).2 = b at *
  generalize (low p' q').1 = c at *
  generalize (low p' q').2 = d at *
  calc a * d * q * q' = (a * q) * (d * q') := by grind
    _ = p * b * (d * q') := by rw [v1]
    _ = (p * q') * (b * d) := by grind
    _ = (p' * q) * (b * d) := by rw [e]
    _ = (p' * d) * (b * q) := by grind
    _ = (c * q') * (b * q) := by rw [v2]
    _ = c * b * q * q' := by grind
theorem low_self {x : Int × Int} (h : IsF x) : low x.1 x.2 = x := by
  have hp := h.pos
  exact isF_ext (low_is (by omega)) h (low_val (by omega))
theorem low_eq_iff {p q : Int} (h : 0 < q) : low p q = (p, q) ↔ Nat.gcd p.natAbs q.natAbs = 1 := by
  constructor
  · intro e
    have := low_is (p := p) (q := q) (by omega)
    rw [e] at this
    exact this.cop
  · intro e
    exact low_self (x := (p, q)) ⟨h, e⟩
theorem ediv_abs {a g : Int} (hg : 0 < g) (hd : g ∣ a) : (a / g).natAbs ≤ a.natAbs := by
  rw [Int.natAbs_ediv_of_dvd hd]
  exact Nat.div_le_self _ _
theorem low_bd1 {p q : Int} (h : q ≠ 0) : (low p q).1.natAbs ≤ p.natAbs := by
  have g0 := gI_pos (p := p) h
  unfold low
  split
  · refine Nat.le_trans (ediv_abs g0 ((Int.dvd_neg).mpr (gI_dl p q))) ?_
    rw [Int.natAbs_neg]; exact Nat.le_refl _
  · exact ediv_abs g0 (gI_dl p q)
theorem low_bd2 {p q : Int} (h : q ≠ 0) : (low p q).2.natAbs ≤ q.natAbs := by
  have g0 := gI_pos (p := p) h
  unfold low
  split
  · refine Nat.le_trans (ediv_abs g0 ((Int.dvd_neg).mpr (gI_dr p q))) ?_
    rw [Int.natAbs_neg]; exact Nat.le_refl _
  · exact ediv_abs g0 (gI_dr p q)
/-- the program's way: both divided by the common divisor with the denominator's sign -/
theorem low_fdiv {p q : Int} (h : q ≠ 0) : (p.fdiv (if q < 0 then -gI p q else gI p q), q.fdiv (if q < 0 then -gI p q else gI p q)) = low p q := by
  have g0 := gI_pos (p := p) h
  have d1 := gI_dl p q
  have d2 := gI_dr p q
  unfold low
  split
  · rw [Int.fdiv_eq_ediv_of_dvd ((Int.neg_dvd).mpr d1), Int.fdiv_eq_ediv_of_dvd ((Int.neg_dvd).mpr d2), Int.ediv_neg, Int.ediv_neg, Int.neg_ediv_of_dvd d1, Int.neg_ediv_of_dvd d2]
  · rw [Int.fdiv_eq_ediv_of_dvd d1, Int.fdiv_eq_ediv_of_dvd d2]
/-! Euclid -/
def euc : Nat → Nat → Nat → Nat × Nat
  | 0, a, b => (a, b)
  | n + 1, a, b => if b = 0 then (a, b) else euc n b (a % b)
theorem euc_done : ∀ (m n a b : Nat), b < 2 ^ m → 2 * m + 1 ≤ n → euc n a b = (Nat.gcd a b, 0)
  | 0, n, a, b, hb, hn => by
    have : b = 0 := by simpa using hb
    subst this
    match n, hn with
    | n + 1, _ => unfold euc; rw [if_pos rfl, Nat.gcd_zero_right]
  | m + 1, n, a, b, hb, hn => by
    match n, hn with
    | n + 2, hn =>
      unfold euc
      by_cases h0 : b = 0
      · rw [if_pos h0, h0, Nat.gcd_zero_right]
      · rw [if_neg h0]
        have hc : a % b < b := Nat.mod_lt _ (by omega)
        unfold euc
        by_cases h1 : a % b = 0
        · rw [if_pos h1, h1]
          have : Nat.gcd a b = b := by rw [Nat.gcd_comm, Nat.gcd_rec, h1, Nat.gcd_zero_left]
          rw [this]
        · rw [if_neg h1]
          have hd : b % (a % b) < a % b := Nat.mod_lt _ (by omega)
          have hd2 : b % (a % b) + (a % b) ≤ b := by
            have := Nat.div_add_mod b (a % b)
            have hq : 1 ≤ b / (a % b) := (Nat.one_le_div_iff (by omega)).mpr (by omega)
            have : (a % b) * 1 ≤ (a % b) * (b / (a % b)) := Nat.mul_le_mul_left _ hq
            omega
          rw [euc_done m n (a % b) (b % (a % b)) (by rw [Nat.pow_succ] at hb; omega) (by omega)]
          have e1 : Nat.gcd a b = Nat.gcd (a % b) (b % (a % b)) := by
            rw [Nat.gcd_comm a b, Nat.gcd_rec b a, Nat.gcd_rec (a % b) b, Nat.gcd_comm]
          rw [e1]
end QF

set_option Elab.async false
set_option linter.all false
set_option maxRecDepth 100000
set_option maxHeartbeats 4000000
namespace Q
open PySem PySem.Spec PyProof.Rows L2 Z R
section
variable {P : Program} {w : World} {K : PySem.W.Frag} {mg : Str → Option Value} {base : Heap}
theorem ok_WebError___init__ (T : Tx K mg) : FnOk P w K mg base (L2.CX P w) 1 T.f_WebError___init__ T.fd_WebError___init__ ["self", "at"] (spAt K) := by
  refine T.F_WebError___init__.okX sc_WebError___init__ (fun vs H Q E ⟨a, C, n, e, _⟩ => by rw [e]; rfl) (fun cdv A outer s H vs Q E hr h => ⟨_, (pss_one (ps_ost (pv 0) (pv 1))), pure_at vs H Q E h⟩)
theorem ok_fraction (T : Tx K mg) : FnOk P w K mg base (L2.CX P w) 3 T.f_fraction T.fd_fraction ["numerator", "denominator"] ((fn_fraction T).sp K) := by
  refine T.F_fraction.okX sc_fraction (SpA.len fun x => by rw [List.length_map]; exact x.2) (fun cdv A outer s H vs Q E hr h => ⟨_, (pss_cons (ps_if (pt_cmpR op_eq (pv 1) pe_int (nomark _))
        (pss_one (ps_raise rfl (takes_of rfl rfl rfl rfl) (pmk_oex T.x_ZeroDivisor.1 T.x_ZeroDivisor.2.2.1 T.x_ZeroDivisor.2.2.2.1 (ok_WebError___init__ T) (hr.mono (by decide)) T.b_WebError___init__ .nil pass_no (by rfl) T.x_ZeroDivisor.2.2.2.2 (pa_cons (pv 0) pa_nil))))
        pss_nil)
      (pss_cons (ps_set (i := 2) sc_fraction.nd rfl (by first | exact Or.inl rfl | exact Or.inr rfl) (pe_callBfun cr_gcd (by rfl) T.z_gcd (pa_cons (pv 0) (pa_cons (pv 1) pa_nil))))
      (pss_cons (ps_if (pt_cmpR op_lt (pv 1) pe_int (nomark _))
        (pss_one (ps_set (i := 2) sc_fraction.nd rfl (by first | exact Or.inl rfl | exact Or.inr rfl) (pe_un un_neg (pv 2))))
        pss_nil)
      (pss_one (ps_ret (pe_tup (pa_cons (pe_op op_fdivU (pv 0) (pv 2)) (pa_cons (pe_op op_fdivU (pv 1) (pv 2)) pa_nil)))))))), ?_⟩)
  exact Fn.run (xs_fraction T) N_fraction h (fun _ _ _ => rfl)
theorem ok_scaled (T : Tx K mg) : FnOk P w K mg base (L2.CX P w) 1 T.f_scaled T.fd_scaled ["fractions"] ((fn_scaled T).sp K) := by
  refine T.F_scaled.okX sc_scaled (SpA.len fun x => by rw [List.length_map]; exact x.2) (fun cdv A outer s H vs Q E hr h => ⟨_, (pss_cons (ps_set (i := 1) sc_scaled.nd rfl (by first | exact Or.inl rfl | exact Or.inr rfl) pe_int)
      (pss_cons (ps_for (passes_of rfl) rfl (kpi_list K (pv 0)) (pg_name (i := 2) sc_scaled.nd rfl (by first | exact Or.inl rfl | exact Or.inr rfl))
        (pss_one (ps_set (i := 1) sc_scaled.nd rfl (by first | exact Or.inl rfl | exact Or.inr rfl) (pe_callBfun cr_lcm (by rfl) T.z_lcm (pa_cons (pv 1) (pa_cons (pe_ix (kix_tup K) (pv 2) pe_int (fun _ _ => rfl)) pa_nil))))))
      (pss_one (ps_ret (pe_tup (pa_cons (pe_lc (own := [("pair", 2)]) (g := (gName 2)) rfl sc_scaled.nd (kpi_list K (pv 0)) (blkOk_by (N := N_scaled) (sc := defScope s_scaled) (by decide +kernel)) (fun _ _ _ _ _ => (pg_name (i := 2) sc_scaled.nd rfl (by first | exact Or.inl rfl | exact Or.inr rfl))) (fun _ _ _ _ _ => pts_nil) (fun _ _ _ _ _ => (pe_op op_mulU (pe_ix (kix_tup K) (pv 2) pe_int (fun _ _ => rfl)) (pe_op op_fdivW (pv 1) (pe_ix (kix_tup K) (pv 2) pe_int (fun _ _ => rfl)))))) (pa_cons (pv 1) pa_nil))))))), ?_⟩)
  exact Fn.run (xs_scaled T) N_scaled h (fun _ _ _ => rfl)
theorem ok_Program___init__ (T : Tx K mg) : FnOk P w K mg base (L2.CX P w) 3 T.f_Program___init__ T.fd_Program___init__ ["self", "prices", "rows"] ((fn_Program___init__ T).sp K T.c_Program) := by
  refine T.F_Program___init__.okX sc_Program___init__ (SpI.len fun x => by rw [List.length_map]; exact x.2) (fun cdv A outer s H vs Q E hr h => ⟨_, (pss_cons (ps_if (pt_not (pt_chain op_le op_le pe_int (pe_callB (kcall_len K) (by rfl) T.z_len PySem.boot_len (pa_cons (pv 1) pa_nil)) (pe_glob (v := .int 40) (by rfl) T.k_MOST_VARIABLES ⟨_, rfl⟩)))
        (pss_one (ps_raise rfl (takes_of rfl rfl rfl rfl) (pmk_oex T.x_OutOfRange.1 T.x_OutOfRange.2.2.1 T.x_OutOfRange.2.2.2.1 (ok_WebError___init__ T) (hr.mono (by decide)) T.b_WebError___init__ .nil pass_no (by rfl) T.x_OutOfRange.2.2.2.2 (pa_cons (pe_callB (kcall_len K) (by rfl) T.z_len PySem.boot_len (pa_cons (pv 1) pa_nil)) pa_nil))))
        pss_nil)
      (pss_cons (ps_if (pt_cmpR op_gt (pe_callB (kcall_len K) (by rfl) T.z_len PySem.boot_len (pa_cons (pv 2) pa_nil)) (pe_glob (v := .int 80) (by rfl) T.k_MOST_ROWS ⟨_, rfl⟩) (nomark _))
        (pss_one (ps_raise rfl (takes_of rfl rfl rfl rfl) (pmk_oex T.x_TooMany.1 T.x_TooMany.2.2.1 T.x_TooMany.2.2.2.1 (ok_WebError___init__ T) (hr.mono (by decide)) T.b_WebError___init__ .nil pass_no (by rfl) T.x_TooMany.2.2.2.2 (pa_cons (pe_callB (kcall_len K) (by rfl) T.z_len PySem.boot_len (pa_cons (pv 2) pa_nil)) pa_nil))))
        pss_nil)
      (pss_cons (ps_for (passes_of rfl) rfl (kpi_enum K (by rfl) T.z_enumerate (pa_cons (pv 2) pa_nil)) (kpg_tup K (n := 2) rfl (pgs_cons (pg_name (i := 3) sc_Program___init__.nd rfl (by first | exact Or.inl rfl | exact Or.inr rfl)) (pgs_cons (kpg_tup K (n := 3) rfl (pgs_cons (pg_name (i := 4) sc_Program___init__.nd rfl (by first | exact Or.inl rfl | exact Or.inr rfl)) (pgs_cons (pg_name (i := 5) sc_Program___init__.nd rfl (by first | exact Or.inl rfl | exact Or.inr rfl)) (pgs_cons (pg_name (i := 6) sc_Program___init__.nd rfl (by first | exact Or.inl rfl | exact Or.inr rfl)) pgs_nil)))) pgs_nil)))
        (pss_cons (ps_if (pt_cmpR op_ne (pe_callB (kcall_len K) (by rfl) T.z_len PySem.boot_len (pa_cons (pv 4) pa_nil)) (pe_callB (kcall_len K) (by rfl) T.z_len PySem.boot_len (pa_cons (pv 1) pa_nil)) (nomark _))
        (pss_one (ps_raise rfl (takes_of rfl rfl rfl rfl) (pmk_oex T.x_WrongSize.1 T.x_WrongSize.2.2.1 T.x_WrongSize.2.2.2.1 (ok_WebError___init__ T) (hr.mono (by decide)) T.b_WebError___init__ .nil pass_no (by rfl) T.x_WrongSize.2.2.2.2 (pa_cons (pv 3) pa_nil))))
        pss_nil)
      (pss_one (ps_if (pt_cmpR (kop_notIn K) (pv 5) (pe_glob (v := .ref T.c_RELATIONS) (by rfl) T.k_RELATIONS rfl) rfl)
        (pss_one (ps_raise rfl (takes_of rfl rfl rfl rfl) (pmk_oex T.x_BadRelation.1 T.x_BadRelation.2.2.1 T.x_BadRelation.2.2.2.1 (ok_WebError___init__ T) (hr.mono (by decide)) T.b_WebError___init__ .nil pass_no (by rfl) T.x_BadRelation.2.2.2.2 (pa_cons (pv 3) pa_nil))))
        pss_nil))))
      (pss_cons (kps_fld K (pv 0) (pe_callTy (kcall_list K) (by rfl) T.z_list (by decide +kernel) (pa_cons (pv 1) pa_nil)) rfl)
      (pss_one (kps_fld K (pv 0) (pe_lc (own := [("numbers", 4), ("relation", 5), ("bound", 7)]) (g := (gTup K 3 (gCons (gName 4) (gCons (gName 5) (gCons (gName 7) gNil))))) rfl sc_Program___init__.nd (kpi_list K (pv 2)) (blkOk_by (N := N_Program___init__) (sc := defScope s_Program___init__) (by decide +kernel)) (fun _ _ _ _ _ => (kpg_tup K (n := 3) rfl (pgs_cons (pg_name (i := 4) sc_Program___init__.nd rfl (by first | exact Or.inl rfl | exact Or.inr rfl)) (pgs_cons (pg_name (i := 5) sc_Program___init__.nd rfl (by first | exact Or.inl rfl | exact Or.inr rfl)) (pgs_cons (pg_name (i := 7) sc_Program___init__.nd rfl (by first | exact Or.inl rfl | exact Or.inr rfl)) pgs_nil))))) (fun _ _ _ _ _ => pts_nil) (fun _ _ _ _ _ => (pe_tup (pa_cons (pe_callTy (kcall_list K) (by rfl) T.z_list (by decide +kernel) (pa_cons (pv 4) pa_nil)) (pa_cons (pv 5) (pa_cons (pv 7) pa_nil)))))) rfl)))))), ?_⟩)
  exact FnI.run (xs_Program___init__ T) N_Program___init__ h (fun xs _ hn a => run_Program___init__ T xs hn a)
theorem ok_Program_count (T : Tx K mg) : FnOk P w K mg base (L2.CX P w) 1 T.f_Program_count T.fd_Program_count ["self"] ((fn_Program_count T).sp K) := by
  refine T.F_Program_count.okX sc_Program_count (SpA.len fun x => by rw [List.length_map]; exact x.2) (fun cdv A outer s H vs Q E hr h => ⟨_, (pss_one (ps_ret (pe_callB (kcall_len K) (by rfl) T.z_len PySem.boot_len (pa_cons (kpe_fld K (pv 0) rfl) pa_nil)))), ?_⟩)
  exact Fn.run (xs_Program_count T) N_Program_count h (fun _ _ _ => rfl)
theorem ok_Program_rows (T : Tx K mg) : FnOk P w K mg base (L2.CX P w) 1 T.f_Program_rows T.fd_Program_rows ["self"] ((fn_Program_rows T).sp K) := by
  refine T.F_Program_rows.okX sc_Program_rows (SpA.len fun x => by rw [List.length_map]; exact x.2) (fun cdv A outer s H vs Q E hr h => ⟨_, (pss_one (ps_ret (pe_lc (own := [("numbers", 1), ("relation", 2), ("bound", 3)]) (g := (gTup K 3 (gCons (gName 1) (gCons (gName 2) (gCons (gName 3) gNil))))) rfl sc_Program_rows.nd (kpi_list K (kpe_fld K (pv 0) rfl)) (blkOk_by (N := N_Program_rows) (sc := defScope s_Program_rows) (by decide +kernel)) (fun _ _ _ _ _ => (kpg_tup K (n := 3) rfl (pgs_cons (pg_name (i := 1) sc_Program_rows.nd rfl (by first | exact Or.inl rfl | exact Or.inr rfl)) (pgs_cons (pg_name (i := 2) sc_Program_rows.nd rfl (by first | exact Or.inl rfl | exact Or.inr rfl)) (pgs_cons (pg_name (i := 3) sc_Program_rows.nd rfl (by first | exact Or.inl rfl | exact Or.inr rfl)) pgs_nil))))) (fun _ _ _ _ _ => pts_nil) (fun _ _ _ _ _ => (pe_tup (pa_cons (pe_callTy (kcall_list K) (by rfl) T.z_list (by decide +kernel) (pa_cons (pv 1) pa_nil)) (pa_cons (pv 2) (pa_cons (pv 3) pa_nil)))))))), ?_⟩)
  exact Fn.run (xs_Program_rows T) N_Program_rows h (fun _ _ _ => rfl)
theorem ok_dot (T : Tx K mg) : FnOk P w K mg base (L2.CX P w) 1 T.f_dot T.fd_dot ["numbers", "others"] ((fn_dot T).sp K) := by
  refine T.F_dot.okX sc_dot (SpA.len fun x => by rw [List.length_map]; exact x.2) (fun cdv A outer s H vs Q E hr h => ⟨_, (pss_one (ps_ret (pe_callB (kcall_sum K rfl) (by rfl) T.z_sum (by decide +kernel) (pa_cons (pe_lc (own := [("number", 2), ("other", 3)]) (g := (gTup K 2 (gCons (gName 2) (gCons (gName 3) gNil)))) rfl sc_dot.nd (pi_zip (by rfl) T.z_zip (pa_cons (pv 0) (pa_cons (pv 1) pa_nil))) (blkOk_by (N := N_dot) (sc := defScope s_dot) (by decide +kernel)) (fun _ _ _ _ _ => (kpg_tup K (n := 2) rfl (pgs_cons (pg_name (i := 2) sc_dot.nd rfl (by first | exact Or.inl rfl | exact Or.inr rfl)) (pgs_cons (pg_name (i := 3) sc_dot.nd rfl (by first | exact Or.inl rfl | exact Or.inr rfl)) pgs_nil)))) (fun _ _ _ _ _ => pts_nil) (fun _ _ _ _ _ => (pe_op op_mulU (pv 2) (pv 3)))) pa_nil)))), ?_⟩)
  exact Fn.run (xs_dot T) N_dot h (fun _ _ _ => rfl)
theorem ok_is_fit (T : Tx K mg) : FnOk P w K mg base (L2.CX P w) 1 T.f_is_fit T.fd_is_fit ["relation", "multiplier"] ((fn_is_fit T).sp K) := by
  refine T.F_is_fit.okX sc_is_fit (SpA.len fun x => by rw [List.length_map]; exact x.2) (fun cdv A outer s H vs Q E hr h => ⟨_, (pss_cons (ps_if (pt_cmpR op_eq (pv 0) pe_str (nomark _))
        (pss_one (ps_ret (pe_cmpR op_ge (pe_ix (kix_tup K) (pv 1) pe_int (fun _ _ => rfl)) pe_int (nomark _))))
        pss_nil)
      (pss_one (ps_ret (pe_or (pe_cmpR op_eq (pv 0) pe_str (nomark _)) (pe_one (pe_cmpR op_le (pe_ix (kix_tup K) (pv 1) pe_int (fun _ _ => rfl)) pe_int (nomark _))))))), ?_⟩)
  exact Fn.run (xs_is_fit T) N_is_fit h (fun _ _ _ => rfl)
theorem ok_are_fit (T : Tx K mg) : FnOk P w K mg base (L2.CX P w) 2 T.f_are_fit T.fd_are_fit ["program", "multipliers"] ((fn_are_fit T).sp K) := by
  refine T.F_are_fit.okX sc_are_fit (SpA.len fun x => by rw [List.length_map]; exact x.2) (fun cdv A outer s H vs Q E hr h => ⟨_, (pss_cons (ps_set (i := 2) sc_are_fit.nd rfl (by first | exact Or.inl rfl | exact Or.inr rfl) (pe_meth0 (pv 0) T.cl_Program T.m_Program_rows (ok_Program_rows T) (hr.mono (by decide)) T.b_Program_rows .nil (passes_call (takes_of rfl rfl rfl rfl) fun _ _ _ _ z => z)))
      (pss_cons (ps_if (pt_cmpR op_ne (pe_callB (kcall_len K) (by rfl) T.z_len PySem.boot_len (pa_cons (pv 1) pa_nil)) (pe_callB (kcall_len K) (by rfl) T.z_len PySem.boot_len (pa_cons (pv 2) pa_nil)) (nomark _))
        (pss_one (ps_ret pe_bl))
        pss_nil)
      (pss_one (ps_ret (pe_callB (kcall_all K rfl) (by rfl) T.z_all (by decide +kernel) (pa_cons (pe_lc (own := [("row", 3), ("multiplier", 4)]) (g := (gTup K 2 (gCons (gName 3) (gCons (gName 4) gNil)))) rfl sc_are_fit.nd (pi_zip (by rfl) T.z_zip (pa_cons (pv 2) (pa_cons (pv 1) pa_nil))) (blkOk_by (N := N_are_fit) (sc := defScope s_are_fit) (by decide +kernel)) (fun _ _ _ _ _ => (kpg_tup K (n := 2) rfl (pgs_cons (pg_name (i := 3) sc_are_fit.nd rfl (by first | exact Or.inl rfl | exact Or.inr rfl)) (pgs_cons (pg_name (i := 4) sc_are_fit.nd rfl (by first | exact Or.inl rfl | exact Or.inr rfl)) pgs_nil)))) (fun _ _ _ _ _ => pts_nil) (fun _ _ _ _ _ => (pe_call (ok_is_fit T) (hr.mono (by decide)) (by rfl) T.g_is_fit T.F_is_fit.kp T.b_is_fit .nil pass_no (pa_cons (pe_ix (kix_tup K) (pv 3) pe_int (fun _ _ => rfl)) (pa_cons (pv 4) pa_nil))))) pa_nil)))))), ?_⟩)
  exact Fn.run (xs_are_fit T) N_are_fit h (fun _ _ _ => rfl)
theorem ok_scaled_for (T : Tx K mg) : FnOk P w K mg base (L2.CX P w) 3 T.f_scaled_for T.fd_scaled_for ["rows", "multipliers"] ((fn_scaled_for T).sp K) := by
  refine T.F_scaled_for.okX sc_scaled_for (SpA.len fun x => by rw [List.length_map]; exact x.2) (fun cdv A outer s H vs Q E hr h => ⟨_, (pss_cons (ps_if (pt_cmpR op_ne (pe_callB (kcall_len K) (by rfl) T.z_len PySem.boot_len (pa_cons (pv 1) pa_nil)) (pe_callB (kcall_len K) (by rfl) T.z_len PySem.boot_len (pa_cons (pv 0) pa_nil)) (nomark _))
        (pss_one (ps_raise rfl (takes_of rfl rfl rfl rfl) (pmk_oex T.x_WrongSize.1 T.x_WrongSize.2.2.1 T.x_WrongSize.2.2.2.1 (ok_WebError___init__ T) (hr.mono (by decide)) T.b_WebError___init__ .nil pass_no (by rfl) T.x_WrongSize.2.2.2.2 (pa_cons pe_int pa_nil))))
        pss_nil)
      (pss_one (ps_ret (pe_call (ok_scaled T) (hr.mono (by decide)) (by rfl) T.g_scaled T.F_scaled.kp T.b_scaled .nil (passes_call (takes_of rfl rfl rfl rfl) fun _ _ _ _ z => z) (pa_cons (pv 1) pa_nil))))), ?_⟩)
  exact Fn.run (xs_scaled_for T) N_scaled_for h (fun _ _ _ => rfl)
theorem ok_loads (T : Tx K mg) : FnOk P w K mg base (L2.CX P w) 4 T.f_loads T.fd_loads ["program", "multipliers"] ((fn_loads T).sp K) := by
  refine T.F_loads.okX sc_loads (SpA.len fun x => by rw [List.length_map]; exact x.2) (fun cdv A outer s H vs Q E hr h => ⟨_, (pss_cons (ps_set (i := 2) sc_loads.nd rfl (by first | exact Or.inl rfl | exact Or.inr rfl) (pe_meth0 (pv 0) T.cl_Program T.m_Program_rows (ok_Program_rows T) (hr.mono (by decide)) T.b_Program_rows .nil (passes_call (takes_of rfl rfl rfl rfl) fun _ _ _ _ z => z)))
      (pss_cons (ps_asg (pe_call (ok_scaled_for T) (hr.mono (by decide)) (by rfl) T.g_scaled_for T.F_scaled_for.kp T.b_scaled_for .nil (passes_call (takes_of rfl rfl rfl rfl) fun _ _ _ _ z => z) (pa_cons (pv 2) (pa_cons (pv 1) pa_nil))) (kpg_tup K (n := 2) rfl (pgs_cons (pg_name (i := 3) sc_loads.nd rfl (by first | exact Or.inl rfl | exact Or.inr rfl)) (pgs_cons (pg_name (i := 4) sc_loads.nd rfl (by first | exact Or.inl rfl | exact Or.inr rfl)) pgs_nil))))
      (pss_one (ps_ret (pe_lc (own := [("variable", 5)]) (g := (gName 5)) rfl sc_loads.nd (pi_range1 (by rfl) T.z_range (pa_cons (pe_meth0 (pv 0) T.cl_Program T.m_Program_count (ok_Program_count T) (hr.mono (by decide)) T.b_Program_count .nil (passes_call (takes_of rfl rfl rfl rfl) fun _ _ _ _ z => z)) pa_nil)) (blkOk_by (N := N_loads) (sc := defScope s_loads) (by decide +kernel)) (fun _ _ _ _ _ => (pg_name (i := 5) sc_loads.nd rfl (by first | exact Or.inl rfl | exact Or.inr rfl))) (fun _ _ _ _ _ => pts_nil) (fun _ _ _ _ _ => (pe_call (ok_fraction T) (hr.mono (by decide)) (by rfl) T.g_fraction T.F_fraction.kp T.b_fraction .nil pass_no (pa_cons (pe_call (ok_dot T) (hr.mono (by decide)) (by rfl) T.g_dot T.F_dot.kp T.b_dot .nil pass_no (pa_cons (pe_lc (own := [("row", 6)]) (g := (gName 6)) rfl sc_loads.nd (kpi_list K (pv 2)) (blkOk_by (by rfl)) (fun _ _ _ _ _ => (pg_name (i := 6) sc_loads.nd rfl (by first | exact Or.inl rfl | exact Or.inr rfl))) (fun _ _ _ _ _ => pts_nil) (fun _ _ _ _ _ => (pe_ix (kix_list K) (pe_ix (kix_tup K) (pv 6) pe_int (fun _ _ => rfl)) (pv 5) (fun _ _ => rfl)))) (pa_cons (pv 3) pa_nil))) (pa_cons (pv 4) pa_nil))))))))), ?_⟩)
  exact Fn.run (xs_loads T) N_loads h (fun _ _ _ => rfl)
theorem ok_gain (T : Tx K mg) : FnOk P w K mg base (L2.CX P w) 4 T.f_gain T.fd_gain ["program", "multipliers"] ((fn_gain T).sp K) := by
  refine T.F_gain.okX sc_gain (SpA.len fun x => by rw [List.length_map]; exact x.2) (fun cdv A outer s H vs Q E hr h => ⟨_, (pss_cons (ps_set (i := 2) sc_gain.nd rfl (by first | exact Or.inl rfl | exact Or.inr rfl) (pe_meth0 (pv 0) T.cl_Program T.m_Program_rows (ok_Program_rows T) (hr.mono (by decide)) T.b_Program_rows .nil (passes_call (takes_of rfl rfl rfl rfl) fun _ _ _ _ z => z)))
      (pss_cons (ps_asg (pe_call (ok_scaled_for T) (hr.mono (by decide)) (by rfl) T.g_scaled_for T.F_scaled_for.kp T.b_scaled_for .nil (passes_call (takes_of rfl rfl rfl rfl) fun _ _ _ _ z => z) (pa_cons (pv 2) (pa_cons (pv 1) pa_nil))) (kpg_tup K (n := 2) rfl (pgs_cons (pg_name (i := 3) sc_gain.nd rfl (by first | exact Or.inl rfl | exact Or.inr rfl)) (pgs_cons (pg_name (i := 4) sc_gain.nd rfl (by first | exact Or.inl rfl | exact Or.inr rfl)) pgs_nil))))
      (pss_one (ps_ret (pe_call (ok_fraction T) (hr.mono (by decide)) (by rfl) T.g_fraction T.F_fraction.kp T.b_fraction .nil (passes_call (takes_of rfl rfl rfl rfl) fun _ _ _ _ z => z) (pa_cons (pe_call (ok_dot T) (hr.mono (by decide)) (by rfl) T.g_dot T.F_dot.kp T.b_dot .nil (passes_call (takes_of rfl rfl rfl rfl) fun _ _ _ _ z => z) (pa_cons (pe_lc (own := [("row", 5)]) (g := (gName 5)) rfl sc_gain.nd (kpi_list K (pv 2)) (blkOk_by (N := N_gain) (sc := defScope s_gain) (by decide +kernel)) (fun _ _ _ _ _ => (pg_name (i := 5) sc_gain.nd rfl (by first | exact Or.inl rfl | exact Or.inr rfl))) (fun _ _ _ _ _ => pts_nil) (fun _ _ _ _ _ => (pe_ix (kix_tup K) (pv 5) pe_int (fun _ _ => rfl)))) (pa_cons (pv 3) pa_nil))) (pa_cons (pv 4) pa_nil))))))), ?_⟩)
  exact Fn.run (xs_gain T) N_gain h (fun _ _ _ => rfl)
theorem ok_law_numbers (T : Tx K mg) : FnOk P w K mg base (L2.CX P w) 1 T.f_law_numbers T.fd_law_numbers ["script", "many"] ((fn_law_numbers T).sp K) := by
  refine T.F_law_numbers.okX sc_law_numbers (SpA.len fun x => by rw [List.length_map]; exact x.2) (fun cdv A outer s H vs Q E hr h => ⟨_, (pss_cons (ps_set (i := 2) sc_law_numbers.nd rfl (by first | exact Or.inl rfl | exact Or.inr rfl) (pe_op op_cat (pe_lc (own := [("cell", 7)]) (g := (gName 7)) rfl sc_law_numbers.nd (kpi_list K (pe_slice (ksl_list K) (pv 0) po_none (po_some pe_int))) (blkOk_by (N := N_law_numbers) (sc := defScope s_law_numbers) (by decide +kernel)) (fun _ _ _ _ _ => (pg_name (i := 7) sc_law_numbers.nd rfl (by first | exact Or.inl rfl | exact Or.inr rfl))) (fun _ _ _ _ _ => pts_nil) (fun _ _ _ _ _ => (pe_callB call_abs (by rfl) T.z_abs (by decide +kernel) (pa_cons (pv 7) pa_nil)))) (pe_lst (pa_cons pe_int pa_nil))))
      (pss_cons (ps_if (pt_cmpR op_gt (pe_callB (kcall_len K) (by rfl) T.z_len PySem.boot_len (pa_cons (pv 0) pa_nil)) pe_int (nomark _))
        (pss_one (ps_set (i := 2) sc_law_numbers.nd rfl (by first | exact Or.inl rfl | exact Or.inr rfl) (pe_slice (ksl_list K) (pv 2) po_none (po_some (pe_un un_neg pe_int)))))
        pss_nil)
      (pss_cons (ps_setLc (i := 3) (own := [("cell", 7)]) (g := (gName 7)) rfl sc_law_numbers.nd rfl rfl (sw_true rfl rfl rfl (by decide +kernel)) (kpi_list K (pv 2)) (blkOk_by (N := N_law_numbers) (sc := defScope s_law_numbers) (by decide +kernel)) (fun _ _ _ _ _ => (pg_name (i := 7) sc_law_numbers.nd rfl (by first | exact Or.inl rfl | exact Or.inr rfl))) (fun _ _ _ _ _ => pts_nil) (fun _ _ _ _ _ => (pe_op op_mod (pe_callTy call_int1 (by rfl) T.z_int (by decide +kernel) (pa_cons (pe_op op_add (pe_op op_mulU (pv 7) pe_int) pe_int) pa_nil)) pe_int)))
      (pss_cons (ps_set (i := 4) sc_law_numbers.nd rfl (by first | exact Or.inl rfl | exact Or.inr rfl) (pe_lst pa_nil))
      (pss_cons (ps_for (passes_of rfl) rfl (pi_range1 (by rfl) T.z_range (pa_cons (pv 1) pa_nil)) (pg_name (i := 5) sc_law_numbers.nd rfl (by first | exact Or.inl rfl | exact Or.inr rfl))
        (pss_cons (ps_set (i := 6) sc_law_numbers.nd rfl (by first | exact Or.inl rfl | exact Or.inr rfl) (pe_op op_mod (pe_callTy call_int1 (by rfl) T.z_int (by decide +kernel) (pa_cons (pv 5) pa_nil)) (pe_callB (kcall_len K) (by rfl) T.z_len PySem.boot_len (pa_cons (pv 2) pa_nil))))
      (pss_one (ps_if (pt_cmpR op_ge (pe_ix (kix_list K) (pv 2) (pv 6) (fun _ _ => rfl)) (pe_op op_pow pe_int pe_int) (nomark _))
        (pss_cons (ps_expr (pe_bm PySem.F.plainAttrs_list PySem.F.slot_list_append PySem.F.type_list_append mt_append (pv 4) (pa_cons (pe_op op_mod (pe_callTy call_int1 (by rfl) T.z_int (by decide +kernel) (pa_cons (pe_ix (kix_list K) (pv 2) (pv 6) (fun _ _ => rfl)) pa_nil)) pe_int) pa_nil)))
      (pss_one (ps_asg (pe_op op_fdivW (pe_ix (kix_list K) (pv 2) (pv 6) (fun _ _ => rfl)) pe_int) (pg_sub (pv 2) (pv 6) set_list))))
        (pss_cons (ps_asg (pe_op op_mod (pe_callTy call_int1 (by rfl) T.z_int (by decide +kernel) (pa_cons (pe_op op_add (pe_op op_add (pe_op op_mulU (pe_ix (kix_list K) (pv 3) (pv 6) (fun _ _ => rfl)) pe_int) pe_int) (pe_op op_mulU pe_int (pv 5))) pa_nil)) pe_int) (pg_sub (pv 3) (pv 6) set_list))
      (pss_one (ps_expr (pe_bm PySem.F.plainAttrs_list PySem.F.slot_list_append PySem.F.type_list_append mt_append (pv 4) (pa_cons (pe_op op_mod (pe_callTy call_int1 (by rfl) T.z_int (by decide +kernel) (pa_cons (pe_op op_add (pe_ix (kix_list K) (pv 2) (pv 6) (fun _ _ => rfl)) (pe_op op_fdivW (pe_ix (kix_list K) (pv 3) (pv 6) (fun _ _ => rfl)) pe_int)) pa_nil)) pe_int) pa_nil)))))))))
      (pss_one (ps_ret (pv 4)))))))), ?_⟩)
  exact Fn.run (xs_law_numbers T) N_law_numbers h (fun _ _ _ => rfl)
theorem ok_law_lowest (T : Tx K mg) : FnOk P w K mg base (L2.CX P w) 1 T.f_law_lowest T.fd_law_lowest ["p", "q"] ((fn_law_lowest T).sp K) := by
  refine T.F_law_lowest.okX sc_law_lowest (SpA.len fun x => by rw [List.length_map]; exact x.2) (fun cdv A outer s H vs Q E hr h => ⟨_, (pss_cons (ps_if (pt_cmpR op_lt (pv 1) pe_int (nomark _))
        (pss_one (ps_par (i := 0) (j := 1) rfl sc_law_lowest.nd rfl rfl (by decide) rfl rfl (pa_cons (pe_un un_neg (pv 0)) (pa_cons (pe_un un_neg (pv 1)) pa_nil)) (by rfl)))
        pss_nil)
      (pss_cons (ps_par (i := 2) (j := 3) rfl sc_law_lowest.nd rfl rfl (by decide) rfl rfl (pa_cons (pe_callB call_abs (by rfl) T.z_abs (by decide +kernel) (pa_cons (pv 0) pa_nil)) (pa_cons (pv 1) pa_nil)) (by rfl))
      (pss_cons (ps_for (passes_of rfl) rfl (pi_range1 (by rfl) T.z_range (pa_cons pe_int pa_nil)) (pg_name (i := 4) sc_law_lowest.nd rfl (by first | exact Or.inl rfl | exact Or.inr rfl))
        (pss_cons (ps_if (pt_cmpR op_eq (pv 3) pe_int (nomark _))
        (pss_one ps_break)
        pss_nil)
      (pss_one (ps_par (i := 2) (j := 3) rfl sc_law_lowest.nd rfl rfl (by decide) rfl rfl (pa_cons (pv 3) (pa_cons (pe_op op_mod (pe_callTy call_int1 (by rfl) T.z_int (by decide +kernel) (pa_cons (pv 2) pa_nil)) (pv 3)) pa_nil)) (by rfl)))))
      (pss_one (ps_ret (pe_tup (pa_cons (pe_op op_fdivW (pv 0) (pv 2)) (pa_cons (pe_op op_fdivW (pv 1) (pv 2)) pa_nil)))))))), ?_⟩)
  exact Fn.run (xs_law_lowest T) N_law_lowest h (fun _ _ _ => rfl)
theorem ok_law_plus (T : Tx K mg) : FnOk P w K mg base (L2.CX P w) 2 T.f_law_plus T.fd_law_plus ["first", "second"] ((fn_law_plus T).sp K) := by
  refine T.F_law_plus.okX sc_law_plus (SpA.len fun x => by rw [List.length_map]; exact x.2) (fun cdv A outer s H vs Q E hr h => ⟨_, (pss_one (ps_ret (pe_call (ok_law_lowest T) (hr.mono (by decide)) (by rfl) T.g_law_lowest T.F_law_lowest.kp T.b_law_lowest .nil (passes_call (takes_of rfl rfl rfl rfl) fun _ _ _ _ z => z) (pa_cons (pe_op op_add (pe_op op_mulU (pe_ix (kix_tup K) (pv 0) pe_int (fun _ _ => rfl)) (pe_ix (kix_tup K) (pv 1) pe_int (fun _ _ => rfl))) (pe_op op_mulU (pe_ix (kix_tup K) (pv 1) pe_int (fun _ _ => rfl)) (pe_ix (kix_tup K) (pv 0) pe_int (fun _ _ => rfl)))) (pa_cons (pe_op op_mulU (pe_ix (kix_tup K) (pv 0) pe_int (fun _ _ => rfl)) (pe_ix (kix_tup K) (pv 1) pe_int (fun _ _ => rfl))) pa_nil))))), ?_⟩)
  exact Fn.run (xs_law_plus T) N_law_plus h (fun _ _ _ => rfl)
theorem ok_law_times (T : Tx K mg) : FnOk P w K mg base (L2.CX P w) 2 T.f_law_times T.fd_law_times ["first", "second"] ((fn_law_times T).sp K) := by
  refine T.F_law_times.okX sc_law_times (SpA.len fun x => by rw [List.length_map]; exact x.2) (fun cdv A outer s H vs Q E hr h => ⟨_, (pss_one (ps_ret (pe_call (ok_law_lowest T) (hr.mono (by decide)) (by rfl) T.g_law_lowest T.F_law_lowest.kp T.b_law_lowest .nil (passes_call (takes_of rfl rfl rfl rfl) fun _ _ _ _ z => z) (pa_cons (pe_op op_mulU (pe_ix (kix_tup K) (pv 0) pe_int (fun _ _ => rfl)) (pe_ix (kix_tup K) (pv 1) pe_int (fun _ _ => rfl))) (pa_cons (pe_op op_mulU (pe_ix (kix_tup K) (pv 0) pe_int (fun _ _ => rfl)) (pe_ix (kix_tup K) (pv 1) pe_int (fun _ _ => rfl))) pa_nil))))), ?_⟩)
  exact Fn.run (xs_law_times T) N_law_times h (fun _ _ _ => rfl)
theorem ok_law_less (T : Tx K mg) : FnOk P w K mg base (L2.CX P w) 1 T.f_law_less T.fd_law_less ["first", "second"] ((fn_law_less T).sp K) := by
  refine T.F_law_less.okX sc_law_less (SpA.len fun x => by rw [List.length_map]; exact x.2) (fun cdv A outer s H vs Q E hr h => ⟨_, (pss_one (ps_ret (pe_cmpR op_lt (pe_op op_mulU (pe_ix (kix_tup K) (pv 0) pe_int (fun _ _ => rfl)) (pe_ix (kix_tup K) (pv 1) pe_int (fun _ _ => rfl))) (pe_op op_mulU (pe_ix (kix_tup K) (pv 1) pe_int (fun _ _ => rfl)) (pe_ix (kix_tup K) (pv 0) pe_int (fun _ _ => rfl))) (nomark _)))), ?_⟩)
  exact Fn.run (xs_law_less T) N_law_less h (fun _ _ _ => rfl)
theorem ok_law_added (T : Tx K mg) : FnOk P w K mg base (L2.CX P w) 3 T.f_law_added T.fd_law_added ["rows"] ((fn_law_added T).sp K) := by
  refine T.F_law_added.okX sc_law_added (SpA.len fun x => by rw [List.length_map]; exact x.2) (fun cdv A outer s H vs Q E hr h => ⟨_, (pss_cons (ps_set (i := 1) sc_law_added.nd rfl (by first | exact Or.inl rfl | exact Or.inr rfl) (pe_tup (pa_cons pe_int (pa_cons pe_int pa_nil))))
      (pss_cons (ps_for (passes_of rfl) rfl (kpi_list K (pv 0)) (pg_name (i := 2) sc_law_added.nd rfl (by first | exact Or.inl rfl | exact Or.inr rfl))
        (pss_one (ps_set (i := 1) sc_law_added.nd rfl (by first | exact Or.inl rfl | exact Or.inr rfl) (pe_call (ok_law_plus T) (hr.mono (by decide)) (by rfl) T.g_law_plus T.F_law_plus.kp T.b_law_plus .nil (passes_call (takes_of rfl rfl rfl rfl) fun _ _ _ _ z => z) (pa_cons (pv 1) (pa_cons (pv 2) pa_nil))))))
      (pss_one (ps_ret (pv 1))))), ?_⟩)
  exact Fn.run (xs_law_added T) N_law_added h (fun _ _ _ => rfl)
theorem ok_law_weighted (T : Tx K mg) : FnOk P w K mg base (L2.CX P w) 4 T.f_law_weighted T.fd_law_weighted ["numbers", "values"] ((fn_law_weighted T).sp K) := by
  refine T.F_law_weighted.okX sc_law_weighted (SpA.len fun x => by rw [List.length_map]; exact x.2) (fun cdv A outer s H vs Q E hr h => ⟨_, (pss_one (ps_ret (pe_call (ok_law_added T) (hr.mono (by decide)) (by rfl) T.g_law_added T.F_law_added.kp T.b_law_added .nil (passes_call (takes_of rfl rfl rfl rfl) fun _ _ _ _ z => z) (pa_cons (pe_lc (own := [("k", 2)]) (g := (gName 2)) rfl sc_law_weighted.nd (pi_range1 (by rfl) T.z_range (pa_cons (pe_callB (kcall_len K) (by rfl) T.z_len PySem.boot_len (pa_cons (pv 0) pa_nil)) pa_nil)) (blkOk_by (N := N_law_weighted) (sc := defScope s_law_weighted) (by decide +kernel)) (fun _ _ _ _ _ => (pg_name (i := 2) sc_law_weighted.nd rfl (by first | exact Or.inl rfl | exact Or.inr rfl))) (fun _ _ _ _ _ => pts_nil) (fun _ _ _ _ _ => (pe_call (ok_law_lowest T) (hr.mono (by decide)) (by rfl) T.g_law_lowest T.F_law_lowest.kp T.b_law_lowest .nil pass_no (pa_cons (pe_op op_mulU (pe_ix (kix_list K) (pv 0) (pv 2) (fun _ _ => rfl)) (pe_ix (kix_tup K) (pe_ix (kix_list K) (pv 1) (pv 2) (fun _ _ => rfl)) pe_int (fun _ _ => rfl))) (pa_cons (pe_ix (kix_tup K) (pe_ix (kix_list K) (pv 1) (pv 2) (fun _ _ => rfl)) pe_int (fun _ _ => rfl)) pa_nil))))) pa_nil)))), ?_⟩)
  exact Fn.run (xs_law_weighted T) N_law_weighted h (fun _ _ _ => rfl)
theorem ok_law_drawn (T : Tx K mg) : FnOk P w K mg base (L2.CX P w) 1 T.f_law_drawn T.fd_law_drawn ["numbers", "at", "many", "count", "wide"] ((fn_law_drawn T).sp K) := by
  refine T.F_law_drawn.okX sc_law_drawn (SpA.len fun x => by rw [List.length_map]; exact x.2) (fun cdv A outer s H vs Q E hr h => ⟨_, (pss_cons (ps_set (i := 5) sc_law_drawn.nd rfl (by first | exact Or.inl rfl | exact Or.inr rfl) (pe_lst pa_nil))
      (pss_cons (ps_for (passes_of rfl) rfl (pi_range1 (by rfl) T.z_range (pa_cons (pv 3) pa_nil)) (pg_name (i := 6) sc_law_drawn.nd rfl (by first | exact Or.inl rfl | exact Or.inr rfl))
        (pss_cons (ps_set (i := 7) sc_law_drawn.nd rfl (by first | exact Or.inl rfl | exact Or.inr rfl) (pe_callTy call_int1 (by rfl) T.z_int (by decide +kernel) (pa_cons (pe_ix (kix_list K) (pv 0) (pe_op op_add (pv 1) (pe_op op_mod (pe_callTy call_int1 (by rfl) T.z_int (by decide +kernel) (pa_cons (pv 6) pa_nil)) pe_int)) (fun _ _ => rfl)) pa_nil)))
      (pss_cons (ps_setLc (i := 8) (own := [("j", 10)]) (g := (gName 10)) rfl sc_law_drawn.nd rfl rfl (sw_true rfl rfl rfl (by decide +kernel)) (pi_range1 (by rfl) T.z_range (pa_cons (pv 2) pa_nil)) (blkOk_by (N := N_law_drawn) (sc := defScope s_law_drawn) (by decide +kernel)) (fun _ _ _ _ _ => (pg_name (i := 10) sc_law_drawn.nd rfl (by first | exact Or.inl rfl | exact Or.inr rfl))) (fun _ _ _ _ _ => pts_nil) (fun _ _ _ _ _ => (pe_op op_sub (pe_op op_mod (pe_callTy call_int1 (by rfl) T.z_int (by decide +kernel) (pa_cons (pe_op op_add (pe_ix (kix_list K) (pv 0) (pe_op op_add (pe_op op_add (pv 1) pe_int) (pe_op op_mod (pe_callTy call_int1 (by rfl) T.z_int (by decide +kernel) (pa_cons (pe_op op_add (pe_op op_mulU (pv 6) (pv 2)) (pv 10)) pa_nil)) pe_int)) (fun _ _ => rfl)) (pe_op op_mulU pe_int (pv 6))) pa_nil)) (pe_op op_add (pe_op op_mulU pe_int (pv 4)) pe_int)) (pv 4))))
      (pss_cons (ps_if (pt_cmpR op_eq (pe_op op_mod (pe_callTy call_int1 (by rfl) T.z_int (by decide +kernel) (pa_cons (pv 7) pa_nil)) pe_int) pe_int (nomark _))
        (pss_one (ps_setLc (i := 8) (own := [("c", 11)]) (g := (gName 11)) rfl sc_law_drawn.nd rfl rfl (sw_true rfl rfl rfl (by decide +kernel)) (kpi_list K (pv 8)) (blkOk_by (N := N_law_drawn) (sc := defScope s_law_drawn) (by decide +kernel)) (fun _ _ _ _ _ => (pg_name (i := 11) sc_law_drawn.nd rfl (by first | exact Or.inl rfl | exact Or.inr rfl))) (fun _ _ _ _ _ => pts_nil) (fun _ _ _ _ _ => (pe_callB call_abs (by rfl) T.z_abs (by decide +kernel) (pa_cons (pv 11) pa_nil)))))
        pss_nil)
      (pss_cons (ps_set (i := 9) sc_law_drawn.nd rfl (by first | exact Or.inl rfl | exact Or.inr rfl) (pe_ix (kix_list K) (pe_lst (pa_cons pe_str (pa_cons pe_str (pa_cons pe_str (pa_cons pe_str (pa_cons pe_str pa_nil)))))) (pe_op op_mod (pe_op op_fdivW (pv 7) pe_int) pe_int) (fun _ _ => rfl)))
      (pss_one (ps_expr (pe_bm PySem.F.plainAttrs_list PySem.F.slot_list_append PySem.F.type_list_append mt_append (pv 5) (pa_cons (pe_tup (pa_cons (pv 8) (pa_cons (pv 9) (pa_cons (pe_op op_sub (pe_op op_mod (pe_callTy call_int1 (by rfl) T.z_int (by decide +kernel) (pa_cons (pe_op op_fdivW (pv 7) pe_int) pa_nil)) (pe_op op_mulU pe_int (pv 4))) (pv 4)) pa_nil)))) pa_nil)))))))))
      (pss_one (ps_ret (pv 5))))), ?_⟩)
  exact Fn.run (xs_law_drawn T) N_law_drawn h (fun _ _ _ => rfl)
theorem ok_law_fits (T : Tx K mg) : FnOk P w K mg base (L2.CX P w) 5 T.f_law_fits T.fd_law_fits ["row", "values"] ((fn_law_fits T).sp K) := by
  refine T.F_law_fits.okX sc_law_fits (SpA.len fun x => by rw [List.length_map]; exact x.2) (fun cdv A outer s H vs Q E hr h => ⟨_, (pss_cons (ps_asg (pv 0) (kpg_tup K (n := 3) rfl (pgs_cons (pg_name (i := 2) sc_law_fits.nd rfl (by first | exact Or.inl rfl | exact Or.inr rfl)) (pgs_cons (pg_name (i := 3) sc_law_fits.nd rfl (by first | exact Or.inl rfl | exact Or.inr rfl)) (pgs_cons (pg_name (i := 4) sc_law_fits.nd rfl (by first | exact Or.inl rfl | exact Or.inr rfl)) pgs_nil)))))
      (pss_cons (ps_set (i := 5) sc_law_fits.nd rfl (by first | exact Or.inl rfl | exact Or.inr rfl) (pe_call (ok_law_weighted T) (hr.mono (by decide)) (by rfl) T.g_law_weighted T.F_law_weighted.kp T.b_law_weighted .nil (passes_call (takes_of rfl rfl rfl rfl) fun _ _ _ _ z => z) (pa_cons (pv 2) (pa_cons (pv 1) pa_nil))))
      (pss_cons (ps_if (pt_cmpR op_eq (pv 3) pe_str (nomark _))
        (pss_one (ps_ret (pe_not (pe_call (ok_law_less T) (hr.mono (by decide)) (by rfl) T.g_law_less T.F_law_less.kp T.b_law_less .nil (passes_call (takes_of rfl rfl rfl rfl) fun _ _ _ _ z => z) (pa_cons (pv 5) (pa_cons (pe_tup (pa_cons (pv 4) (pa_cons pe_int pa_nil))) pa_nil))))))
        pss_nil)
      (pss_cons (ps_if (pt_cmpR op_eq (pv 3) pe_str (nomark _))
        (pss_one (ps_ret (pe_not (pe_call (ok_law_less T) (hr.mono (by decide)) (by rfl) T.g_law_less T.F_law_less.kp T.b_law_less .nil (passes_call (takes_of rfl rfl rfl rfl) fun _ _ _ _ z => z) (pa_cons (pe_tup (pa_cons (pv 4) (pa_cons pe_int pa_nil))) (pa_cons (pv 5) pa_nil))))))
        pss_nil)
      (pss_one (ps_ret (pe_cmpR (kop_eqD K (Z.room64 hr)) (pv 5) (pe_tup (pa_cons (pv 4) (pa_cons pe_int pa_nil))) (nomark _)))))))), ?_⟩)
  exact Fn.run (xs_law_fits T) N_law_fits h (fun _ _ _ => rfl)
theorem ok_law_solution (T : Tx K mg) : FnOk P w K mg base (L2.CX P w) 6 T.f_law_solution T.fd_law_solution ["many", "rows", "values"] ((fn_law_solution T).sp K) := by
  refine T.F_law_solution.okX sc_law_solution (SpA.len fun x => by rw [List.length_map]; exact x.2) (fun cdv A outer s H vs Q E hr h => ⟨_, (pss_cons (ps_if (PW.pt (pw_or (pt_cmpR op_ne (pe_callB (kcall_len K) (by rfl) T.z_len PySem.boot_len (pa_cons (pv 2) pa_nil)) (pv 0) (nomark _)) (pw_or1 (pt_cmpR op_gt (pe_callB (kcall_len K) (by rfl) T.z_len PySem.boot_len (pa_cons (pe_lc (own := [("one", 4)]) (g := (gName 4)) rfl sc_law_solution.nd (kpi_list K (pv 2)) (blkOk_by (N := N_law_solution) (sc := defScope s_law_solution) (by decide +kernel)) (fun _ _ _ _ _ => (pg_name (i := 4) sc_law_solution.nd rfl (by first | exact Or.inl rfl | exact Or.inr rfl))) (fun _ _ _ _ _ => (pts_one (pt_cmpR op_lt (pe_ix (kix_tup K) (pv 4) pe_int (fun _ _ => rfl)) pe_int (nomark _)))) (fun _ _ _ _ _ => pe_int)) pa_nil)) pe_int (nomark _)))))
        (pss_one (ps_ret pe_bl))
        pss_nil)
      (pss_one (ps_ret (pe_callB (kcall_all K rfl) (by rfl) T.z_all (by decide +kernel) (pa_cons (pe_lc (own := [("row", 3)]) (g := (gName 3)) rfl sc_law_solution.nd (kpi_list K (pv 1)) (blkOk_by (N := N_law_solution) (sc := defScope s_law_solution) (by decide +kernel)) (fun _ _ _ _ _ => (pg_name (i := 3) sc_law_solution.nd rfl (by first | exact Or.inl rfl | exact Or.inr rfl))) (fun _ _ _ _ _ => pts_nil) (fun _ _ _ _ _ => (pe_call (ok_law_fits T) (hr.mono (by decide)) (by rfl) T.g_law_fits T.F_law_fits.kp T.b_law_fits .nil pass_no (pa_cons (pv 3) (pa_cons (pv 2) pa_nil))))) pa_nil))))), ?_⟩)
  exact Fn.run (xs_law_solution T) N_law_solution h (fun _ _ _ => rfl)
theorem ok_law_fit (T : Tx K mg) : FnOk P w K mg base (L2.CX P w) 1 T.f_law_fit T.fd_law_fit ["rows", "weights"] ((fn_law_fit T).sp K) := by
  refine T.F_law_fit.okX sc_law_fit (SpA.len fun x => by rw [List.length_map]; exact x.2) (fun cdv A outer s H vs Q E hr h => ⟨_, (pss_cons (ps_if (pt_cmpR op_ne (pe_callB (kcall_len K) (by rfl) T.z_len PySem.boot_len (pa_cons (pv 1) pa_nil)) (pe_callB (kcall_len K) (by rfl) T.z_len PySem.boot_len (pa_cons (pv 0) pa_nil)) (nomark _))
        (pss_one (ps_ret pe_bl))
        pss_nil)
      (pss_cons (ps_for (passes_of rfl) rfl (pi_range1 (by rfl) T.z_range (pa_cons (pe_callB (kcall_len K) (by rfl) T.z_len PySem.boot_len (pa_cons (pv 0) pa_nil)) pa_nil)) (pg_name (i := 2) sc_law_fit.nd rfl (by first | exact Or.inl rfl | exact Or.inr rfl))
        (pss_one (ps_if (PW.pt (pw_or (PW.pt (pw_and (pt_cmpR op_eq (pe_ix (kix_tup K) (pe_ix (kix_list K) (pv 0) (pv 2) (fun _ _ => rfl)) pe_int (fun _ _ => rfl)) pe_str (nomark _)) (pw_and1 (pt_cmpR op_lt (pe_ix (kix_tup K) (pe_ix (kix_list K) (pv 1) (pv 2) (fun _ _ => rfl)) pe_int (fun _ _ => rfl)) pe_int (nomark _))))) (pw_or1 (PW.pt (pw_and (pt_cmpR op_eq (pe_ix (kix_tup K) (pe_ix (kix_list K) (pv 0) (pv 2) (fun _ _ => rfl)) pe_int (fun _ _ => rfl)) pe_str (nomark _)) (pw_and1 (pt_cmpR op_gt (pe_ix (kix_tup K) (pe_ix (kix_list K) (pv 1) (pv 2) (fun _ _ => rfl)) pe_int (fun _ _ => rfl)) pe_int (nomark _))))))))
        (pss_one (ps_ret pe_bl))
        pss_nil)))
      (pss_one (ps_ret pe_bl)))), ?_⟩)
  exact Fn.run (xs_law_fit T) N_law_fit h (fun _ _ _ => rfl)
theorem ok_law_load (T : Tx K mg) : FnOk P w K mg base (L2.CX P w) 5 T.f_law_load T.fd_law_load ["rows", "weights", "j"] ((fn_law_load T).sp K) := by
  refine T.F_law_load.okX sc_law_load (SpA.len fun x => by rw [List.length_map]; exact x.2) (fun cdv A outer s H vs Q E hr h => ⟨_, (pss_one (ps_ret (pe_call (ok_law_weighted T) (hr.mono (by decide)) (by rfl) T.g_law_weighted T.F_law_weighted.kp T.b_law_weighted .nil (passes_call (takes_of rfl rfl rfl rfl) fun _ _ _ _ z => z) (pa_cons (pe_lc (own := [("row", 3)]) (g := (gName 3)) rfl sc_law_load.nd (kpi_list K (pv 0)) (blkOk_by (N := N_law_load) (sc := defScope s_law_load) (by decide +kernel)) (fun _ _ _ _ _ => (pg_name (i := 3) sc_law_load.nd rfl (by first | exact Or.inl rfl | exact Or.inr rfl))) (fun _ _ _ _ _ => pts_nil) (fun _ _ _ _ _ => (pe_ix (kix_list K) (pe_ix (kix_tup K) (pv 3) pe_int (fun _ _ => rfl)) (pv 2) (fun _ _ => rfl)))) (pa_cons (pv 1) pa_nil))))), ?_⟩)
  exact Fn.run (xs_law_load T) N_law_load h (fun _ _ _ => rfl)
theorem ok_law_gain (T : Tx K mg) : FnOk P w K mg base (L2.CX P w) 5 T.f_law_gain T.fd_law_gain ["rows", "weights"] ((fn_law_gain T).sp K) := by
  refine T.F_law_gain.okX sc_law_gain (SpA.len fun x => by rw [List.length_map]; exact x.2) (fun cdv A outer s H vs Q E hr h => ⟨_, (pss_one (ps_ret (pe_call (ok_law_weighted T) (hr.mono (by decide)) (by rfl) T.g_law_weighted T.F_law_weighted.kp T.b_law_weighted .nil (passes_call (takes_of rfl rfl rfl rfl) fun _ _ _ _ z => z) (pa_cons (pe_lc (own := [("row", 2)]) (g := (gName 2)) rfl sc_law_gain.nd (kpi_list K (pv 0)) (blkOk_by (N := N_law_gain) (sc := defScope s_law_gain) (by decide +kernel)) (fun _ _ _ _ _ => (pg_name (i := 2) sc_law_gain.nd rfl (by first | exact Or.inl rfl | exact Or.inr rfl))) (fun _ _ _ _ _ => pts_nil) (fun _ _ _ _ _ => (pe_ix (kix_tup K) (pv 2) pe_int (fun _ _ => rfl)))) (pa_cons (pv 1) pa_nil))))), ?_⟩)
  exact Fn.run (xs_law_gain T) N_law_gain h (fun _ _ _ => rfl)
theorem ok_law_some (T : Tx K mg) : FnOk P w K mg base (L2.CX P w) 2 T.f_law_some T.fd_law_some ["numbers", "at", "k"] ((fn_law_some T).sp K) := by
  refine T.F_law_some.okX sc_law_some (SpA.len fun x => by rw [List.length_map]; exact x.2) (fun cdv A outer s H vs Q E hr h => ⟨_, (pss_cons (ps_set (i := 3) sc_law_some.nd rfl (by first | exact Or.inl rfl | exact Or.inr rfl) (pe_op op_sub (pe_op op_mod (pe_callTy call_int1 (by rfl) T.z_int (by decide +kernel) (pa_cons (pe_ix (kix_list K) (pv 0) (pe_op op_add (pv 1) (pe_op op_mod (pe_callTy call_int1 (by rfl) T.z_int (by decide +kernel) (pa_cons (pv 2) pa_nil)) pe_int)) (fun _ _ => rfl)) pa_nil)) pe_int) (pe_ix (kix_list K) (pe_lst (pa_cons pe_int (pa_cons pe_int (pa_cons pe_int pa_nil)))) (pe_op op_mod (pe_callTy call_int1 (by rfl) T.z_int (by decide +kernel) (pa_cons (pe_ix (kix_list K) (pv 0) (pe_op op_add (pv 1) (pe_op op_mod (pe_callTy call_int1 (by rfl) T.z_int (by decide +kernel) (pa_cons (pe_op op_add (pv 2) pe_int) pa_nil)) pe_int)) (fun _ _ => rfl)) pa_nil)) pe_int) (fun _ _ => rfl))))
      (pss_one (ps_ret (pe_call (ok_law_lowest T) (hr.mono (by decide)) (by rfl) T.g_law_lowest T.F_law_lowest.kp T.b_law_lowest .nil (passes_call (takes_of rfl rfl rfl rfl) fun _ _ _ _ z => z) (pa_cons (pv 3) (pa_cons (pe_op op_add pe_int (pe_op op_mod (pe_op op_fdivW (pe_callTy call_int1 (by rfl) T.z_int (by decide +kernel) (pa_cons (pe_ix (kix_list K) (pv 0) (pe_op op_add (pv 1) (pe_op op_mod (pe_callTy call_int1 (by rfl) T.z_int (by decide +kernel) (pa_cons (pe_op op_add (pv 2) pe_int) pa_nil)) pe_int)) (fun _ _ => rfl)) pa_nil)) pe_int) pe_int)) pa_nil)))))), ?_⟩)
  exact Fn.run (xs_law_some T) N_law_some h (fun _ _ _ => rfl)
theorem ok_law_refused (T : Tx K mg) : FnOk P w K mg base (L2.CX P w) 5 T.f_law_refused T.fd_law_refused ["way", "program", "weights"] ((fn_law_refused T).sp K) := by
  refine T.F_law_refused.okX sc_law_refused (SpA.len fun x => by rw [List.length_map]; exact x.2) (fun cdv A outer s H vs Q E hr h => ⟨_, (pss_cons (ps_try_as (i := 3) rfl rfl sc_law_refused.nd rfl rfl ⟨rfl, by decide, .inl T.x_WebError.2.2.2.2⟩ (takes_of rfl rfl rfl rfl) (fun W pn xe tk hpx => (pss_one (ps_if (pt_cmpR op_eq (pv 0) pe_int (nomark _))
        (pss_one (ps_expr (pe_callS (ok_loads T) (hr.mono (by decide)) (by rfl) T.g_loads T.F_loads.kp T.b_loads (fun σ => passAt tk σ) (pa_cons (pv 1) (pa_cons (pv 2) pa_nil)))))
        (pss_one (ps_expr (pe_callS (ok_gain T) (hr.mono (by decide)) (by rfl) T.g_gain T.F_gain.kp T.b_gain (fun σ => passAt tk σ) (pa_cons (pv 1) (pa_cons (pv 2) pa_nil))))))))
        (fun a oe cls d pn hz hf => (pss_one (ps_ret (pe_tup (pa_cons (pe_callB (call_isX hz hf) (by rfl) T.z_isinstance (by decide +kernel) (pa_cons (pv 3) (pa_cons (pe_glob (v := .ref T.c_WrongSize) (by rfl) T.x_WrongSize.2.2.2.2 rfl) pa_nil))) (pa_cons (pe_xg hz hf (pv 3)) pa_nil)))))))
      (pss_one (ps_ret pe_non))), ?_⟩)
  exact Fn.run (xs_law_refused T) N_law_refused h (fun _ _ _ => rfl)
theorem ok_law_signed (T : Tx K mg) : FnOk P w K mg base (L2.CX P w) 1 T.f_law_signed T.fd_law_signed ["rows", "weights"] ((fn_law_signed T).sp K) := by
  refine T.F_law_signed.okX sc_law_signed (SpA.len fun x => by rw [List.length_map]; exact x.2) (fun cdv A outer s H vs Q E hr h => ⟨_, (pss_cons (ps_set (i := 2) sc_law_signed.nd rfl (by first | exact Or.inl rfl | exact Or.inr rfl) (pe_lst pa_nil))
      (pss_cons (ps_for (passes_of rfl) rfl (pi_zip (by rfl) T.z_zip (pa_cons (pv 0) (pa_cons (pv 1) pa_nil))) (kpg_tup K (n := 2) rfl (pgs_cons (pg_name (i := 3) sc_law_signed.nd rfl (by first | exact Or.inl rfl | exact Or.inr rfl)) (pgs_cons (pg_name (i := 4) sc_law_signed.nd rfl (by first | exact Or.inl rfl | exact Or.inr rfl)) pgs_nil)))
        (pss_cons (ps_if (pt_cmpR op_eq (pe_ix (kix_tup K) (pv 3) pe_int (fun _ _ => rfl)) pe_str (nomark _))
        (pss_one (ps_set (i := 4) sc_law_signed.nd rfl (by first | exact Or.inl rfl | exact Or.inr rfl) (pe_tup (pa_cons (pe_callB call_abs (by rfl) T.z_abs (by decide +kernel) (pa_cons (pe_ix (kix_tup K) (pv 4) pe_int (fun _ _ => rfl)) pa_nil)) (pa_cons (pe_ix (kix_tup K) (pv 4) pe_int (fun _ _ => rfl)) pa_nil)))))
        pss_nil)
      (pss_cons (ps_if (pt_cmpR op_eq (pe_ix (kix_tup K) (pv 3) pe_int (fun _ _ => rfl)) pe_str (nomark _))
        (pss_one (ps_set (i := 4) sc_law_signed.nd rfl (by first | exact Or.inl rfl | exact Or.inr rfl) (pe_tup (pa_cons (pe_un un_neg (pe_callB call_abs (by rfl) T.z_abs (by decide +kernel) (pa_cons (pe_ix (kix_tup K) (pv 4) pe_int (fun _ _ => rfl)) pa_nil))) (pa_cons (pe_ix (kix_tup K) (pv 4) pe_int (fun _ _ => rfl)) pa_nil)))))
        pss_nil)
      (pss_one (ps_expr (pe_bm PySem.F.plainAttrs_list PySem.F.slot_list_append PySem.F.type_list_append mt_append (pv 2) (pa_cons (pv 4) pa_nil)))))))
      (pss_one (ps_ret (pv 2))))), ?_⟩)
  exact Fn.run (xs_law_signed T) N_law_signed h (fun _ _ _ => rfl)
end
end Q

set_option Elab.async false
set_option linter.all false
set_option maxRecDepth 100000
set_option maxHeartbeats 4000000
namespace Q
open PySem PySem.Spec PyProof.Rows L2 Z R QF
local macro_rules | `(tactic| walk_at "ds") => `(tactic| first | assumption | decide | omega | exact ⟨by decide, by decide⟩ | exact ⟨by omega, by omega⟩ | exact div_lit ⟨by omega, by omega⟩ | exact mul_r (by omega) | exact mul_l (by omega))
local macro_rules | `(tactic| walk_at "ev") => `(tactic| simp (disch := walk_at "ds") only [bind_ok, bind_ex, bind_no, oc_k, oc_x, oc_n, of_some, of_none, okV_ok, okV_ex, okV_no, bOf_b, iOf_i, asL_l, asS_l, asS_s, lOf_l, var_ev, var_el, var_es, int_ev, bool_ev, non_ev, str_ev, av_f, av_t, op_ev, op_el, op_es, opN_ev, e_ev, e_el, e_es, neg_ev, bv_eq, iv_eq, andV_ev, orV_ev, notV_ev, ife_ev, ife_el, ife_es, chain_ev, inK_ev, setfld_ev, tup_ev, dev_eq, avD_nil, avD_cons, lst_ev, anil_ev, acons_ev, bi_ev, biN_ev, call_ev, call_el, call_es, callN_ev, meth_ev, meth_el, meth_es, methN_ev, make_ev, fld_ev, fld_el, fld_es, test_ev, B_ev, and_ev, or_ev, not_ev, truthL_ev, ifeT_ev, yes_ev, onone_ev, osome_ev, sl_ev, slS_ev, lend_ev, blank_ev, ilist_ev, irng1_ev, irng2_ev, avI1_i, avI2_i, ienum_ev, izip_ev, gname_ev, gnil_ev, gcons_ev, gtup_ev, glst_ev, lc_ev, nx_ev, brk_ev, cnt_ev, seq_ev, set_ev, setN_ev, asg_ev, par_ev, aug_ev, seti_ev, app_ev, ite_ev, ret_ev, retN_ev, retO_ev, retV_ev, drop_ev, frz_ev, for_ev, lp_nil, raise_ev, try_ev, add_ka, add_kb, add_f, sub_ka, sub_kb, sub_f, band_ka, band_kb, band_f, lt_ka, lt_kb, lt_f, le_ka, le_kb, le_f, gt_ka, gt_kb, gt_f, ge_ka, ge_kb, ge_f, mul_ka, mul_kb, div_ka, div_kb, divU_ka, divU_kb, mod_ka, mod_kb, pow_ka, pow_kb, shl_ka, shl_kb, shr_ka, shr_kb, eq_ka, eq_kb, ne_ka, ne_kb, eqD_ka, eqD_kb, neD_ka, neD_kb, isN_ka, isN_kb, notN_ka, notN_kb, isB_ka, isB_kb, notB_ka, notB_kb, ixS_ka, ixS_kb, ixT_ka, ixT_kb, neL_ka, neL_kb, ixL_ka, ixL_kb, inL_ka, inL_kb, notInL_ka, notInL_kb, cat_ka, cat_kb, rep_ka, rep_kb, eq_i, eq_s, ne_i, ne_s, isB_f, notB_f, isN_f, notN_f, ixL_f, ixT_f, ixS_f, len_f, lenS_f, abs_f, min2_f, max2_f, int_f, intB_f, gcd_f, listN_f, runX_eq, res_rt, res_ro, res_nx, res_xc, at0, at1, at2, rng_if, lcL_nil, mul_f, div_f, divU_f, mod_f, pow_f, shl_f, shr_f, cat_f, lcm_f, repr_f, List.getElem?_cons_zero, List.getElem?_cons_succ, List.set_cons_zero, List.set_cons_succ, List.length_cons, List.length_nil, Nat.reduceAdd, Nat.reduceLT, Nat.reduceLeDiff, Nat.reduceEqDiff, if_true, if_false, Option.map_some, Option.map_none, Option.bind_some, Option.bind_none, reduceIte, decide_true, decide_false, R.start, avS, R.frz, at0, at1, at2, allXb, Sv.isX, List.all_cons, List.all_nil, Bool.and_true, Bool.true_and, Bool.and_false, Bool.false_and, List.flatten_cons, List.map_cons, List.map_nil, List.cons_append, List.nil_append, List.replicate_succ, List.replicate_zero, Bool.not_true, Bool.not_false, Nat.reduceMul, Nat.reduceSub, Nat.zero_add, and_self, and_true, true_and, and_false, false_and])
local macro_rules | `(tactic| walk_at "evh") => `(tactic| simp (disch := walk_at "ds") only [bind_ok, bind_ex, bind_no, oc_k, oc_x, oc_n, of_some, of_none, okV_ok, okV_ex, okV_no, bOf_b, iOf_i, asL_l, asS_l, asS_s, lOf_l, var_ev, var_el, var_es, int_ev, bool_ev, non_ev, str_ev, av_f, av_t, op_ev, op_el, op_es, opN_ev, e_ev, e_el, e_es, neg_ev, bv_eq, iv_eq, andV_ev, orV_ev, notV_ev, ife_ev, ife_el, ife_es, chain_ev, inK_ev, setfld_ev, tup_ev, dev_eq, avD_nil, avD_cons, lst_ev, anil_ev, acons_ev, bi_ev, biN_ev, call_ev, call_el, call_es, callN_ev, meth_ev, meth_el, meth_es, methN_ev, make_ev, fld_ev, fld_el, fld_es, test_ev, B_ev, and_ev, or_ev, not_ev, truthL_ev, ifeT_ev, yes_ev, onone_ev, osome_ev, sl_ev, slS_ev, lend_ev, blank_ev, ilist_ev, irng1_ev, irng2_ev, avI1_i, avI2_i, ienum_ev, izip_ev, gname_ev, gnil_ev, gcons_ev, gtup_ev, glst_ev, lc_ev, nx_ev, brk_ev, cnt_ev, seq_ev, set_ev, setN_ev, asg_ev, par_ev, aug_ev, seti_ev, app_ev, ite_ev, ret_ev, retN_ev, retO_ev, retV_ev, drop_ev, frz_ev, for_ev, lp_nil, raise_ev, try_ev, add_ka, add_kb, add_f, sub_ka, sub_kb, sub_f, band_ka, band_kb, band_f, lt_ka, lt_kb, lt_f, le_ka, le_kb, le_f, gt_ka, gt_kb, gt_f, ge_ka, ge_kb, ge_f, mul_ka, mul_kb, div_ka, div_kb, divU_ka, divU_kb, mod_ka, mod_kb, pow_ka, pow_kb, shl_ka, shl_kb, shr_ka, shr_kb, eq_ka, eq_kb, ne_ka, ne_kb, eqD_ka, eqD_kb, neD_ka, neD_kb, isN_ka, isN_kb, notN_ka, notN_kb, isB_ka, isB_kb, notB_ka, notB_kb, ixS_ka, ixS_kb, ixT_ka, ixT_kb, neL_ka, neL_kb, ixL_ka, ixL_kb, inL_ka, inL_kb, notInL_ka, notInL_kb, cat_ka, cat_kb, rep_ka, rep_kb, eq_i, eq_s, ne_i, ne_s, isB_f, notB_f, isN_f, notN_f, ixL_f, ixT_f, ixS_f, len_f, lenS_f, abs_f, min2_f, max2_f, int_f, intB_f, gcd_f, listN_f, runX_eq, res_rt, res_ro, res_nx, res_xc, at0, at1, at2, rng_if, lcL_nil, mul_f, div_f, divU_f, mod_f, pow_f, shl_f, shr_f, cat_f, lcm_f, repr_f, List.getElem?_cons_zero, List.getElem?_cons_succ, List.set_cons_zero, List.set_cons_succ, List.length_cons, List.length_nil, Nat.reduceAdd, Nat.reduceLT, Nat.reduceLeDiff, Nat.reduceEqDiff, if_true, if_false, Option.map_some, Option.map_none, Option.bind_some, Option.bind_none, reduceIte, decide_true, decide_false, R.start, avS, R.frz, at0, at1, at2, allXb, Sv.isX, List.all_cons, List.all_nil, Bool.and_true, Bool.true_and, Bool.and_false, Bool.false_and, List.flatten_cons, List.map_cons, List.map_nil, List.cons_append, List.nil_append, List.replicate_succ, List.replicate_zero, Bool.not_true, Bool.not_false, Nat.reduceMul, Nat.reduceSub, Nat.zero_add, and_self, and_true, true_and, and_false, false_and, *])
variable {K : PySem.W.Frag} {mg : Str → Option Value} (T : Tx K mg)
abbrev fd (x : Int × Int) : PyData := .tuple [.int x.1, .int x.2]
abbrev fv (x : Int × Int) : Av := .v (.d (fd x))
theorem f_fraction0 (p : Int) : (fn_fraction T).f [iv p, iv 0] = .ex T.c_ZeroDivisor p := by
  rw [fnf_fraction]
  unfold xs_fraction
  walk_at "ev"
theorem f_fraction {k : Nat} {p q : Int} (h : q ≠ 0) (h0 : 0 < k) (hk : k ≤ 9000) (hb : q.natAbs < 2 ^ k) : (fn_fraction T).f [iv p, iv q] = .ok (.d (fd (low p q))) := by
  have hg := gI_pos (p := p) h
  have hl := gI_le (p := p) h
  have hg2 : (gI p q).natAbs < 2 ^ k := Nat.lt_of_le_of_lt (by omega) hb
  have hlog : (gI p q).natAbs.log2 < 9000 := Nat.lt_of_lt_of_le (PySem.Flt.log2_lt_of h0 hg2) hk
  rw [fnf_fraction]
  unfold xs_fraction
  rw [← low_fdiv h]
  have e0 : decide (q = 0) = false := decide_eq_false h
  have eg : ((Nat.gcd p.natAbs q.natAbs : Nat) : Int) = gI p q := rfl
  by_cases hq : q < 0
  · have hc : ∀ i, CDivU i (-gI p q) := fun i => ⟨by omega, by rw [Int.natAbs_neg]; exact hlog⟩
    have hc1 := hc p
    have hc2 := hc q
    have e1 : decide (q < 0) = true := decide_eq_true hq
    clear hb hg2 hlog
    walk_at "evh"
  · have hc : ∀ i, CDivU i (gI p q) := fun i => ⟨by omega, hlog⟩
    have hc1 := hc p
    have hc2 := hc q
    have e1 : decide (q < 0) = false := decide_eq_false hq
    clear hb hg2 hlog
    walk_at "evh"
/-! the law's own way -/
def lowS (p q one two : Int) (s : Sv) : List Sv := [.v (.d (.int p)), .v (.d (.int q)), .v (.d (.int one)), .v (.d (.int two)), s]
theorem euc_loop (p q : Int) : ∀ (ds : List PyData) (a b : Nat) (s : Sv), ∃ s', lp (K := K) (XG.name 4) (xb_law_lowest_1 T) ds (lowS p q a b s) = (.nx (lowS p q (euc ds.length a b).1 (euc ds.length a b).2 s') : Oc)
  | [], a, b, s => ⟨s, rfl⟩
  | d :: ds, a, b, s => by
    by_cases hb : b = 0
    · subst hb
      refine ⟨.v (.d d), ?_⟩
      have e : euc (d :: ds).length a 0 = (a, 0) := by show euc (ds.length + 1) a 0 = _; unfold euc; rw [if_pos rfl]
      rw [e]
      rw [lp_cons]
      unfold lowS xb_law_lowest_1
      have e0 : decide (((0 : Nat) : Int) = 0) = true := rfl
      clear e
      walk_at "evh"
    · obtain ⟨s', h⟩ := euc_loop p q ds b (a % b) (.v (.d d))
      refine ⟨s', ?_⟩
      have e : euc (d :: ds).length a b = euc ds.length b (a % b) := by show euc (ds.length + 1) a b = _; conv => lhs; unfold euc; rw [if_neg hb]
      rw [e, ← h]
      have e0 : decide ((b : Int) = 0) = false := decide_eq_false (by omega)
      have e1 : (0 : Int) < (b : Int) := by omega
      have e2 : ((a : Int) % (b : Int)) = ((a % b : Nat) : Int) := rfl
      rw [lp_cons]
      unfold lowS xb_law_lowest_1
      clear h e
      walk_at "evh"
theorem f_lowest {k : Nat} {p q : Int} (h : q ≠ 0) (h0 : 0 < k) (hk : 2 * k + 1 ≤ 4000) (hb : q.natAbs < 2 ^ k) : (fn_law_lowest T).f [iv p, iv q] = .ok (.d (fd (low p q))) := by
  have hg := gI_pos (p := p) h
  have hl := gI_le (p := p) h
  have hg2 : (gI p q).natAbs < 2 ^ k := Nat.lt_of_le_of_lt (by omega) hb
  have hlog : (gI p q).natAbs.log2 < 9000 := Nat.lt_of_lt_of_le (PySem.Flt.log2_lt_of h0 hg2) (by omega)
  have hc : ∀ i, CDivW i (gI p q) := fun i => ⟨by omega, hlog⟩
  have hlen : (irange 0 (4000 : Int).toNat).length = 4000 := by rw [irange_len]; rfl
  have e : euc 4000 p.natAbs q.natAbs = (Nat.gcd p.natAbs q.natAbs, 0) := euc_done k 4000 _ _ hb hk
  have ea : ∀ x : Int, (if x < 0 then -x else x) = (x.natAbs : Int) := fun x => by split <;> omega
  have main : ∀ P Q : Int, 0 < Q → P.natAbs = p.natAbs → Q.natAbs = q.natAbs → (P / gI p q, Q / gI p q) = low p q →
      (XS.seq (.par 2 3 (.cons false (.bi Bi.abs (.cons false (.var 0) .nil)) (.cons false (.var 1) .nil)))
    (.seq (.for_ (.range1 (.cons false (.int 4000) .nil)) (.name 4) (xb_law_lowest_1 T))
    (.ret (.tup (.cons false (.op O2.div (.var 0) (.var 2)) (.cons false (.op O2.div (.var 1) (.var 2)) .nil))))) : XS K).ev [.v (.d (.int P)), .v (.d (.int Q)), .x, .x, .x] = .rt (.d (fd (low p q))) := by
    intro P Q hQ h1 h2 h3
    refine run_nx (st1 := lowS P Q (P.natAbs : Int) (Q.natAbs : Int) .x) ?_ ?_
    · have eQ : (Q.natAbs : Int) = Q := by omega
      unfold lowS
      rw [eQ, ← ea P]
      walk_at "ev"
    · obtain ⟨s', hl⟩ := euc_loop T P Q (irange 0 (4000 : Int).toNat) P.natAbs Q.natAbs .x
      rw [hlen, h1, h2, e] at hl
      rw [h1, h2]
      refine run_nx (st1 := lowS P Q (Nat.gcd p.natAbs q.natAbs : Nat) (0 : Nat) s') (for_nx (ds := irange 0 (4000 : Int).toNat) (by walk_at "ev") hl) ?_
      have eg : ((Nat.gcd p.natAbs q.natAbs : Nat) : Int) = gI p q := rfl
      have hc1 := hc P
      have hc2 := hc Q
      rw [eg, ← h3]
      unfold lowS
      clear hb hg2 hlog hl e hlen ea h3
      walk_at "ev"
  rw [fnf_law_lowest]
  refine runX_of ?_
  unfold xs_law_lowest
  by_cases hq : q < 0
  · refine run_nx (st1 := [.v (.d (.int (-p))), .v (.d (.int (-q))), .x, .x, .x]) ?_ (main (-p) (-q) (by omega) (Int.natAbs_neg _) (Int.natAbs_neg _) ?_)
    · have e1 : decide (q < 0) = true := decide_eq_true hq
      clear hb hg2 hlog e hlen ea main
      walk_at "evh"
    · unfold low; rw [if_pos hq]
  · refine run_nx (st1 := [.v (.d (.int p)), .v (.d (.int q)), .x, .x, .x]) ?_ (main p q (by omega) rfl rfl ?_)
    · have e1 : decide (q < 0) = false := decide_eq_false hq
      clear hb hg2 hlog e hlen ea main
      walk_at "evh"
    · unfold low; rw [if_neg hq]
end Q

set_option Elab.async false
set_option linter.all false
set_option maxRecDepth 100000
set_option maxHeartbeats 4000000
namespace Q
open PySem PySem.Spec PyProof.Rows L2 Z R QF
local macro_rules | `(tactic| walk_at "ds") => `(tactic| first | assumption | decide | omega | exact ⟨by decide, by decide⟩ | exact ⟨by omega, by omega⟩ | exact div_lit ⟨by omega, by omega⟩ | exact mul_r (by omega) | exact mul_l (by omega))
local macro_rules | `(tactic| walk_at "ev") => `(tactic| simp (disch := walk_at "ds") only [bind_ok, bind_ex, bind_no, oc_k, oc_x, oc_n, of_some, of_none, okV_ok, okV_ex, okV_no, bOf_b, iOf_i, asL_l, asS_l, asS_s, lOf_l, var_ev, var_el, var_es, int_ev, bool_ev, non_ev, str_ev, av_f, av_t, op_ev, op_el, op_es, opN_ev, e_ev, e_el, e_es, neg_ev, bv_eq, iv_eq, andV_ev, orV_ev, notV_ev, ife_ev, ife_el, ife_es, chain_ev, inK_ev, setfld_ev, tup_ev, dev_eq, avD_nil, avD_cons, lst_ev, anil_ev, acons_ev, bi_ev, biN_ev, call_ev, call_el, call_es, callN_ev, meth_ev, meth_el, meth_es, methN_ev, make_ev, fld_ev, fld_el, fld_es, test_ev, B_ev, and_ev, or_ev, not_ev, truthL_ev, ifeT_ev, yes_ev, onone_ev, osome_ev, sl_ev, slS_ev, lend_ev, blank_ev, ilist_ev, irng1_ev, irng2_ev, avI1_i, avI2_i, ienum_ev, izip_ev, gname_ev, gnil_ev, gcons_ev, gtup_ev, glst_ev, lc_ev, nx_ev, brk_ev, cnt_ev, seq_ev, set_ev, setN_ev, asg_ev, par_ev, aug_ev, seti_ev, app_ev, ite_ev, ret_ev, retN_ev, retO_ev, retV_ev, drop_ev, frz_ev, for_ev, lp_nil, raise_ev, try_ev, add_ka, add_kb, add_f, sub_ka, sub_kb, sub_f, band_ka, band_kb, band_f, lt_ka, lt_kb, lt_f, le_ka, le_kb, le_f, gt_ka, gt_kb, gt_f, ge_ka, ge_kb, ge_f, mul_ka, mul_kb, div_ka, div_kb, divU_ka, divU_kb, mod_ka, mod_kb, pow_ka, pow_kb, shl_ka, shl_kb, shr_ka, shr_kb, eq_ka, eq_kb, ne_ka, ne_kb, eqD_ka, eqD_kb, neD_ka, neD_kb, isN_ka, isN_kb, notN_ka, notN_kb, isB_ka, isB_kb, notB_ka, notB_kb, ixS_ka, ixS_kb, ixT_ka, ixT_kb, neL_ka, neL_kb, ixL_ka, ixL_kb, inL_ka, inL_kb, notInL_ka, notInL_kb, cat_ka, cat_kb, rep_ka, rep_kb, eq_i, eq_s, ne_i, ne_s, isB_f, notB_f, isN_f, notN_f, ixL_f, ixT_f, ixS_f, len_f, lenS_f, abs_f, min2_f, max2_f, int_f, intB_f, gcd_f, listN_f, runX_eq, res_rt, res_ro, res_nx, res_xc, at0, at1, at2, rng_if, lcL_nil, mul_f, div_f, divU_f, mod_f, pow_f, shl_f, shr_f, cat_f, lcm_f, repr_f, List.getElem?_cons_zero, List.getElem?_cons_succ, List.set_cons_zero, List.set_cons_succ, List.length_cons, List.length_nil, Nat.reduceAdd, Nat.reduceLT, Nat.reduceLeDiff, Nat.reduceEqDiff, if_true, if_false, Option.map_some, Option.map_none, Option.bind_some, Option.bind_none, reduceIte, decide_true, decide_false, R.start, avS, R.frz, at0, at1, at2, allXb, Sv.isX, List.all_cons, List.all_nil, Bool.and_true, Bool.true_and, Bool.and_false, Bool.false_and, List.flatten_cons, List.map_cons, List.map_nil, List.cons_append, List.nil_append, List.replicate_succ, List.replicate_zero, Bool.not_true, Bool.not_false, Nat.reduceMul, Nat.reduceSub, Nat.zero_add, and_self, and_true, true_and, and_false, false_and])
local macro_rules | `(tactic| walk_at "evh") => `(tactic| simp (disch := walk_at "ds") only [bind_ok, bind_ex, bind_no, oc_k, oc_x, oc_n, of_some, of_none, okV_ok, okV_ex, okV_no, bOf_b, iOf_i, asL_l, asS_l, asS_s, lOf_l, var_ev, var_el, var_es, int_ev, bool_ev, non_ev, str_ev, av_f, av_t, op_ev, op_el, op_es, opN_ev, e_ev, e_el, e_es, neg_ev, bv_eq, iv_eq, andV_ev, orV_ev, notV_ev, ife_ev, ife_el, ife_es, chain_ev, inK_ev, setfld_ev, tup_ev, dev_eq, avD_nil, avD_cons, lst_ev, anil_ev, acons_ev, bi_ev, biN_ev, call_ev, call_el, call_es, callN_ev, meth_ev, meth_el, meth_es, methN_ev, make_ev, fld_ev, fld_el, fld_es, test_ev, B_ev, and_ev, or_ev, not_ev, truthL_ev, ifeT_ev, yes_ev, onone_ev, osome_ev, sl_ev, slS_ev, lend_ev, blank_ev, ilist_ev, irng1_ev, irng2_ev, avI1_i, avI2_i, ienum_ev, izip_ev, gname_ev, gnil_ev, gcons_ev, gtup_ev, glst_ev, lc_ev, nx_ev, brk_ev, cnt_ev, seq_ev, set_ev, setN_ev, asg_ev, par_ev, aug_ev, seti_ev, app_ev, ite_ev, ret_ev, retN_ev, retO_ev, retV_ev, drop_ev, frz_ev, for_ev, lp_nil, raise_ev, try_ev, add_ka, add_kb, add_f, sub_ka, sub_kb, sub_f, band_ka, band_kb, band_f, lt_ka, lt_kb, lt_f, le_ka, le_kb, le_f, gt_ka, gt_kb, gt_f, ge_ka, ge_kb, ge_f, mul_ka, mul_kb, div_ka, div_kb, divU_ka, divU_kb, mod_ka, mod_kb, pow_ka, pow_kb, shl_ka, shl_kb, shr_ka, shr_kb, eq_ka, eq_kb, ne_ka, ne_kb, eqD_ka, eqD_kb, neD_ka, neD_kb, isN_ka, isN_kb, notN_ka, notN_kb, isB_ka, isB_kb, notB_ka, notB_kb, ixS_ka, ixS_kb, ixT_ka, ixT_kb, neL_ka, neL_kb, ixL_ka, ixL_kb, inL_ka, inL_kb, notInL_ka, notInL_kb, cat_ka, cat_kb, rep_ka, rep_kb, eq_i, eq_s, ne_i, ne_s, isB_f, notB_f, isN_f, notN_f, ixL_f, ixT_f, ixS_f, len_f, lenS_f, abs_f, min2_f, max2_f, int_f, intB_f, gcd_f, listN_f, runX_eq, res_rt, res_ro, res_nx, res_xc, at0, at1, at2, rng_if, lcL_nil, mul_f, div_f, divU_f, mod_f, pow_f, shl_f, shr_f, cat_f, lcm_f, repr_f, List.getElem?_cons_zero, List.getElem?_cons_succ, List.set_cons_zero, List.set_cons_succ, List.length_cons, List.length_nil, Nat.reduceAdd, Nat.reduceLT, Nat.reduceLeDiff, Nat.reduceEqDiff, if_true, if_false, Option.map_some, Option.map_none, Option.bind_some, Option.bind_none, reduceIte, decide_true, decide_false, R.start, avS, R.frz, at0, at1, at2, allXb, Sv.isX, List.all_cons, List.all_nil, Bool.and_true, Bool.true_and, Bool.and_false, Bool.false_and, List.flatten_cons, List.map_cons, List.map_nil, List.cons_append, List.nil_append, List.replicate_succ, List.replicate_zero, Bool.not_true, Bool.not_false, Nat.reduceMul, Nat.reduceSub, Nat.zero_add, and_self, and_true, true_and, and_false, false_and, *])
variable {K : PySem.W.Frag} {mg : Str → Option Value} (T : Tx K mg)
theorem mulU {i j : Int} {a b : Nat} (ha : i.natAbs < 2 ^ a) (hb : j.natAbs < 2 ^ b) (h : 1 ≤ a ∧ 1 ≤ b ∧ a + b ≤ 1000000) : CMulU i j := .inr (.inr (wide_mul ha hb (by omega) (by omega) h.2.2))
theorem mulB {i j : Int} {a b : Nat} (ha : i.natAbs < 2 ^ a) (hb : j.natAbs < 2 ^ b) : (i * j).natAbs < 2 ^ (a + b) := wide_lt ha hb
theorem divW {i j : Int} {b : Nat} (h : 0 < j) (hb : j.natAbs < 2 ^ b) (hk : 1 ≤ b ∧ b ≤ 9000) : CDivW i j := wide_div h hb (by omega) hk.2
theorem sh_fd (x : Int × Int) : SeqAt.shaped (fd x) = true := Sh.shaped (k := 1) (sh_tup (sh_cons sh_int (sh_cons sh_int sh_nil)))
theorem eqv_fd (x y : Int × Int) : PyData.eqv (fd x) (fd y) = decide (x = y) := by
  rw [Bool.eq_iff_iff, decide_eq_true_eq]
  unfold fd
  simp [PyData.eqv, PyData.eqvAll, Prod.ext_iff]
theorem sh_b (x : Bool) : SeqAt.shaped (.bool x) = true := rfl
theorem eqv_b (x y : Bool) : PyData.eqv (.bool x) (.bool y) = decide (x = y) := by cases x <;> cases y <;> decide
theorem eqvfd {x y : Int × Int} : (O2.eqD : O2 K).f (fv x) (fv y) = some (.d (.bool (decide (x = y)))) := by rw [eqD_f ⟨sh_fd x, sh_fd y⟩, eqv_fd]
theorem nevfd {x y : Int × Int} : (O2.neD : O2 K).f (fv x) (fv y) = some (.d (.bool (!decide (x = y)))) := by rw [neD_f ⟨sh_fd x, sh_fd y⟩, eqv_fd]
section
variable {x y : Int × Int} {n a b : Nat}
/-- sizes of two fractions -/
structure Sz (x y : Int × Int) (n a b : Nat) : Prop where
  x1 : x.1.natAbs < 2 ^ n
  y1 : y.1.natAbs < 2 ^ n
  x2 : x.2.natAbs < 2 ^ a
  y2 : y.2.natAbs < 2 ^ b
  n0 : 1 ≤ n ∧ 1 ≤ a ∧ 1 ≤ b
  n1 : n ≤ 400000 ∧ 2 * (a + b) + 1 ≤ 4000
theorem Sz.m12 (s : Sz x y n a b) : CMulU x.1 y.2 := mulU s.x1 s.y2 (by have := s.n0; have := s.n1; omega)
theorem Sz.m21 (s : Sz x y n a b) : CMulU y.1 x.2 := mulU s.y1 s.x2 (by have := s.n0; have := s.n1; omega)
theorem Sz.m11 (s : Sz x y n a b) : CMulU x.1 y.1 := mulU s.x1 s.y1 (by have := s.n0; have := s.n1; omega)
theorem Sz.m22 (s : Sz x y n a b) : CMulU x.2 y.2 := mulU s.x2 s.y2 (by have := s.n0; have := s.n1; omega)
theorem Sz.q (s : Sz x y n a b) : (x.2 * y.2).natAbs < 2 ^ (a + b) := mulB s.x2 s.y2
theorem f_law_less (s : Sz x y n a b) : (fn_law_less T).f [fv x, fv y] = .ok (.d (.bool (decide (x.1 * y.2 < y.1 * x.2)))) := by
  have h1 := s.m12
  have h2 := s.m21
  rw [fnf_law_less]
  refine runX_of ?_
  unfold xs_law_less
  clear s
  walk_at "ev"
theorem f_law_plus (s : Sz x y n a b) (hx : x.2 ≠ 0) (hy : y.2 ≠ 0) : (fn_law_plus T).f [fv x, fv y] = .ok (.d (fd (low (x.1 * y.2 + y.1 * x.2) (x.2 * y.2)))) := by
  have h1 := s.m12
  have h2 := s.m21
  have h3 := s.m22
  have hf := f_lowest T (k := a + b) (p := x.1 * y.2 + y.1 * x.2) (Int.mul_ne_zero hx hy) (by have := s.n0; omega) (by have := s.n1; omega) s.q
  have hm := fnm_law_lowest T
  rw [fnf_law_plus]
  refine runX_of ?_
  unfold xs_law_plus
  clear s
  walk_at "evh"
theorem f_law_times (s : Sz x y n a b) (hx : x.2 ≠ 0) (hy : y.2 ≠ 0) : (fn_law_times T).f [fv x, fv y] = .ok (.d (fd (low (x.1 * y.1) (x.2 * y.2)))) := by
  have h1 := s.m11
  have h3 := s.m22
  have hf := f_lowest T (k := a + b) (p := x.1 * y.1) (Int.mul_ne_zero hx hy) (by have := s.n0; omega) (by have := s.n1; omega) s.q
  have hm := fnm_law_lowest T
  rw [fnf_law_times]
  refine runX_of ?_
  unfold xs_law_times
  clear s
  walk_at "evh"
end
end Q

set_option Elab.async false
set_option linter.all false
set_option maxRecDepth 100000
set_option maxHeartbeats 4000000
namespace Q
open PySem PySem.Spec PyProof.Rows L2 Z R QF
local macro_rules | `(tactic| walk_at "ds") => `(tactic| first | assumption | decide | omega | exact ⟨by decide, by decide⟩ | exact ⟨by omega, by omega⟩ | exact div_lit ⟨by omega, by omega⟩ | exact mul_r (by omega) | exact mul_l (by omega))
local macro_rules | `(tactic| walk_at "ev") => `(tactic| simp (disch := walk_at "ds") only [bind_ok, bind_ex, bind_no, oc_k, oc_x, oc_n, of_some, of_none, okV_ok, okV_ex, okV_no, bOf_b, iOf_i, asL_l, asS_l, asS_s, lOf_l, var_ev, var_el, var_es, int_ev, bool_ev, non_ev, str_ev, av_f, av_t, op_ev, op_el, op_es, opN_ev, e_ev, e_el, e_es, neg_ev, bv_eq, iv_eq, andV_ev, orV_ev, notV_ev, ife_ev, ife_el, ife_es, chain_ev, inK_ev, setfld_ev, tup_ev, dev_eq, avD_nil, avD_cons, lst_ev, anil_ev, acons_ev, bi_ev, biN_ev, call_ev, call_el, call_es, callN_ev, meth_ev, meth_el, meth_es, methN_ev, make_ev, fld_ev, fld_el, fld_es, test_ev, B_ev, and_ev, or_ev, not_ev, truthL_ev, ifeT_ev, yes_ev, onone_ev, osome_ev, sl_ev, slS_ev, lend_ev, blank_ev, ilist_ev, irng1_ev, irng2_ev, avI1_i, avI2_i, ienum_ev, izip_ev, gname_ev, gnil_ev, gcons_ev, gtup_ev, glst_ev, lc_ev, nx_ev, brk_ev, cnt_ev, seq_ev, set_ev, setN_ev, asg_ev, par_ev, aug_ev, seti_ev, app_ev, ite_ev, ret_ev, retN_ev, retO_ev, retV_ev, drop_ev, frz_ev, for_ev, lp_nil, raise_ev, try_ev, add_ka, add_kb, add_f, sub_ka, sub_kb, sub_f, band_ka, band_kb, band_f, lt_ka, lt_kb, lt_f, le_ka, le_kb, le_f, gt_ka, gt_kb, gt_f, ge_ka, ge_kb, ge_f, mul_ka, mul_kb, div_ka, div_kb, divU_ka, divU_kb, mod_ka, mod_kb, pow_ka, pow_kb, shl_ka, shl_kb, shr_ka, shr_kb, eq_ka, eq_kb, ne_ka, ne_kb, eqD_ka, eqD_kb, neD_ka, neD_kb, isN_ka, isN_kb, notN_ka, notN_kb, isB_ka, isB_kb, notB_ka, notB_kb, ixS_ka, ixS_kb, ixT_ka, ixT_kb, neL_ka, neL_kb, ixL_ka, ixL_kb, inL_ka, inL_kb, notInL_ka, notInL_kb, cat_ka, cat_kb, rep_ka, rep_kb, eq_i, eq_s, ne_i, ne_s, isB_f, notB_f, isN_f, notN_f, ixL_f, ixT_f, ixS_f, len_f, lenS_f, abs_f, min2_f, max2_f, int_f, intB_f, gcd_f, listN_f, runX_eq, res_rt, res_ro, res_nx, res_xc, at0, at1, at2, rng_if, lcL_nil, mul_f, div_f, divU_f, mod_f, pow_f, shl_f, shr_f, cat_f, lcm_f, repr_f, List.getElem?_cons_zero, List.getElem?_cons_succ, List.set_cons_zero, List.set_cons_succ, List.length_cons, List.length_nil, Nat.reduceAdd, Nat.reduceLT, Nat.reduceLeDiff, Nat.reduceEqDiff, if_true, if_false, Option.map_some, Option.map_none, Option.bind_some, Option.bind_none, reduceIte, decide_true, decide_false, R.start, avS, R.frz, at0, at1, at2, allXb, Sv.isX, List.all_cons, List.all_nil, Bool.and_true, Bool.true_and, Bool.and_false, Bool.false_and, List.flatten_cons, List.map_cons, List.map_nil, List.cons_append, List.nil_append, List.replicate_succ, List.replicate_zero, Bool.not_true, Bool.not_false, Nat.reduceMul, Nat.reduceSub, Nat.zero_add, and_self, and_true, true_and, and_false, false_and])
local macro_rules | `(tactic| walk_at "evh") => `(tactic| simp (disch := walk_at "ds") only [bind_ok, bind_ex, bind_no, oc_k, oc_x, oc_n, of_some, of_none, okV_ok, okV_ex, okV_no, bOf_b, iOf_i, asL_l, asS_l, asS_s, lOf_l, var_ev, var_el, var_es, int_ev, bool_ev, non_ev, str_ev, av_f, av_t, op_ev, op_el, op_es, opN_ev, e_ev, e_el, e_es, neg_ev, bv_eq, iv_eq, andV_ev, orV_ev, notV_ev, ife_ev, ife_el, ife_es, chain_ev, inK_ev, setfld_ev, tup_ev, dev_eq, avD_nil, avD_cons, lst_ev, anil_ev, acons_ev, bi_ev, biN_ev, call_ev, call_el, call_es, callN_ev, meth_ev, meth_el, meth_es, methN_ev, make_ev, fld_ev, fld_el, fld_es, test_ev, B_ev, and_ev, or_ev, not_ev, truthL_ev, ifeT_ev, yes_ev, onone_ev, osome_ev, sl_ev, slS_ev, lend_ev, blank_ev, ilist_ev, irng1_ev, irng2_ev, avI1_i, avI2_i, ienum_ev, izip_ev, gname_ev, gnil_ev, gcons_ev, gtup_ev, glst_ev, lc_ev, nx_ev, brk_ev, cnt_ev, seq_ev, set_ev, setN_ev, asg_ev, par_ev, aug_ev, seti_ev, app_ev, ite_ev, ret_ev, retN_ev, retO_ev, retV_ev, drop_ev, frz_ev, for_ev, lp_nil, raise_ev, try_ev, add_ka, add_kb, add_f, sub_ka, sub_kb, sub_f, band_ka, band_kb, band_f, lt_ka, lt_kb, lt_f, le_ka, le_kb, le_f, gt_ka, gt_kb, gt_f, ge_ka, ge_kb, ge_f, mul_ka, mul_kb, div_ka, div_kb, divU_ka, divU_kb, mod_ka, mod_kb, pow_ka, pow_kb, shl_ka, shl_kb, shr_ka, shr_kb, eq_ka, eq_kb, ne_ka, ne_kb, eqD_ka, eqD_kb, neD_ka, neD_kb, isN_ka, isN_kb, notN_ka, notN_kb, isB_ka, isB_kb, notB_ka, notB_kb, ixS_ka, ixS_kb, ixT_ka, ixT_kb, neL_ka, neL_kb, ixL_ka, ixL_kb, inL_ka, inL_kb, notInL_ka, notInL_kb, cat_ka, cat_kb, rep_ka, rep_kb, eq_i, eq_s, ne_i, ne_s, isB_f, notB_f, isN_f, notN_f, ixL_f, ixT_f, ixS_f, len_f, lenS_f, abs_f, min2_f, max2_f, int_f, intB_f, gcd_f, listN_f, runX_eq, res_rt, res_ro, res_nx, res_xc, at0, at1, at2, rng_if, lcL_nil, mul_f, div_f, divU_f, mod_f, pow_f, shl_f, shr_f, cat_f, lcm_f, repr_f, List.getElem?_cons_zero, List.getElem?_cons_succ, List.set_cons_zero, List.set_cons_succ, List.length_cons, List.length_nil, Nat.reduceAdd, Nat.reduceLT, Nat.reduceLeDiff, Nat.reduceEqDiff, if_true, if_false, Option.map_some, Option.map_none, Option.bind_some, Option.bind_none, reduceIte, decide_true, decide_false, R.start, avS, R.frz, at0, at1, at2, allXb, Sv.isX, List.all_cons, List.all_nil, Bool.and_true, Bool.true_and, Bool.and_false, Bool.false_and, List.flatten_cons, List.map_cons, List.map_nil, List.cons_append, List.nil_append, List.replicate_succ, List.replicate_zero, Bool.not_true, Bool.not_false, Nat.reduceMul, Nat.reduceSub, Nat.zero_add, and_self, and_true, true_and, and_false, false_and, *])
variable {K : PySem.W.Frag} {mg : Str → Option Value} (T : Tx K mg)
/-! sums -/
def lcmF (fs : List (Int × Int)) : Int := fs.foldl (fun s f => ((Nat.lcm s.natAbs f.2.natAbs : Nat) : Int)) 1
theorem lcm_fold (fs : List (Int × Int)) : ∀ (s : Int), 0 < s → (∀ f ∈ fs, 0 < f.2) → 0 < fs.foldl (fun s f => ((Nat.lcm s.natAbs f.2.natAbs : Nat) : Int)) s ∧ s ∣ fs.foldl (fun s f => ((Nat.lcm s.natAbs f.2.natAbs : Nat) : Int)) s ∧ (∀ f ∈ fs, f.2 ∣ fs.foldl (fun s f => ((Nat.lcm s.natAbs f.2.natAbs : Nat) : Int)) s) := by
  induction fs with
  | nil => exact fun s h _ => ⟨h, Int.dvd_refl _, fun _ z => nomatch z⟩
  | cons f fs ih =>
    intro s hs hf
    have h0 := hf f (List.mem_cons_self ..)
    have hl : 0 < ((Nat.lcm s.natAbs f.2.natAbs : Nat) : Int) := by
      have := Nat.lcm_pos (m := s.natAbs) (n := f.2.natAbs) (by omega) (by omega)
      omega
    obtain ⟨a, b, c⟩ := ih _ hl fun g hg => hf g (List.mem_cons_of_mem _ hg)
    have d1 : s ∣ ((Nat.lcm s.natAbs f.2.natAbs : Nat) : Int) := Int.natAbs_dvd_natAbs.mp (by rw [Int.natAbs_natCast]; exact Nat.dvd_lcm_left _ _)
    have d2 : f.2 ∣ ((Nat.lcm s.natAbs f.2.natAbs : Nat) : Int) := Int.natAbs_dvd_natAbs.mp (by rw [Int.natAbs_natCast]; exact Nat.dvd_lcm_right _ _)
    refine ⟨a, Int.dvd_trans d1 b, fun g hg => ?_⟩
    rcases List.mem_cons.mp hg with z | z
    · rw [z]; exact Int.dvd_trans d2 b
    · exact c g z
theorem lcm_bd {b : Nat} (fs : List (Int × Int)) : ∀ (s : Int) (k : Nat), s.natAbs < 2 ^ k → (∀ f ∈ fs, f.2.natAbs < 2 ^ b) → (fs.foldl (fun s f => ((Nat.lcm s.natAbs f.2.natAbs : Nat) : Int)) s).natAbs < 2 ^ (k + b * fs.length) := by
  induction fs with
  | nil => exact fun s k h _ => by simpa using h
  | cons f fs ih =>
    intro s k hs hf
    have h1 : (((Nat.lcm s.natAbs f.2.natAbs : Nat) : Int)).natAbs < 2 ^ (k + b) := by
      rw [Int.natAbs_natCast]
      refine Nat.lt_of_le_of_lt (PySem.W.mc_lcm_le _ _) ?_
      rw [Nat.pow_add]
      exact Nat.mul_lt_mul'' hs (hf f (List.mem_cons_self ..))
    have := ih _ _ h1 fun g hg => hf g (List.mem_cons_of_mem _ hg)
    rw [List.length_cons, Nat.mul_succ, show k + (b * fs.length + b) = k + b + b * fs.length by omega]
    exact this
def numF (fs : List (Int × Int)) (S : Int) : List Int := fs.map fun f => f.1 * (S / f.2)
/-- lists of fractions of bounded size -/
structure Fs (fs : List (Int × Int)) (n b : Nat) : Prop where
  is : ∀ f ∈ fs, IsF f
  num : ∀ f ∈ fs, f.1.natAbs < 2 ^ n
  den : ∀ f ∈ fs, f.2.natAbs < 2 ^ b
  n0 : 1 ≤ n ∧ 1 ≤ b
  len : (n + b + 2) * (fs.length + 2) ≤ 100000 ∧ 2 * (b * (fs.length + 1) + 1) + 1 ≤ 4000
def fvs (fs : List (Int × Int)) : Av := .v (.d (.list (fs.map fd)))
theorem le_len {α : Type} {pre post : List α} {x : α} {xs : List α} (e : xs = pre ++ x :: post) : pre.length + 1 ≤ xs.length := by
  rw [e, List.length_append, List.length_cons]; omega
theorem f_scaled {fs : List (Int × Int)} {n b : Nat} (F : Fs fs n b) : (fn_scaled T).f [fvs fs] = .ok (.d (.tuple [.list ((numF fs (lcmF fs)).map .int), .int (lcmF fs)])) := by
  obtain ⟨l0, l1, l2⟩ := lcm_fold fs 1 (by decide) fun f hf => (F.is f hf).pos
  have lb := lcm_bd (b := b) fs 1 1 (by decide) F.den
  have hlen := F.len
  have n0 := F.n0
  have hbl : b * fs.length ≤ b * (fs.length + 1) := Nat.mul_le_mul_left _ (by omega)
  have hb9 : b ≤ b * (fs.length + 1) := Nat.le_mul_of_pos_right _ (by omega)
  rw [fnf_scaled]
  refine runX_of ?_
  unfold xs_scaled
  refine run_nx (st1 := [.v (.d (.list (fs.map fd))), .v (.d (.int 1)), .x]) (by unfold fvs; walk_at "ev") ?_
  obtain ⟨⟨s, z⟩, ⟨hs, hsb, hz⟩, hl⟩ := lp_ex (K := K) (g := .name 2) (s := xb_scaled_1 T) (en := fd) (xs := fs) (fun y : Int × Sv => [.v (.d (.list (fs.map fd))), .v (.d (.int y.1)), y.2])
    (fun pre y => y.1 = pre.foldl (fun s f => ((Nat.lcm s.natAbs f.2.natAbs : Nat) : Int)) 1 ∧ y.1.natAbs < 2 ^ (1 + b * pre.length) ∧ (y.2 = .x ∨ ∃ a, y.2 = .v a)) (x0 := (1, .x)) ⟨rfl, by simp, .inl rfl⟩ (by
      rintro pre x post ⟨s, z⟩ e ⟨h1, h2, -⟩
      have h1 : s = _ := h1
      have h2 : s.natAbs < 2 ^ (1 + b * pre.length) := h2
      have hx : x ∈ fs := by rw [e]; simp
      have hle := le_len e
      have hbp : b * pre.length ≤ b * fs.length := Nat.mul_le_mul_left _ (by omega)
      have hd := F.den x hx
      refine ⟨(((Nat.lcm s.natAbs x.2.natAbs : Nat) : Int), .v (.d (fd x))), ⟨?_, ?_, .inr ⟨_, rfl⟩⟩, _, by walk_at "ev"; rfl, .inl ?_⟩
      · show _ = (pre ++ [x]).foldl _ _
        rw [List.foldl_append, ← h1]
        rfl
      · show (((Nat.lcm s.natAbs x.2.natAbs : Nat) : Int)).natAbs < _
        rw [Int.natAbs_natCast]
        refine Nat.lt_of_le_of_lt (PySem.W.mc_lcm_le _ _) ?_
        rw [List.length_append, List.length_singleton, Nat.mul_succ, ← Nat.add_assoc, Nat.pow_add _ _ b]
        exact Nat.mul_lt_mul'' h2 hd
      · have c1 : s.natAbs.log2 < 9000 ∧ x.2.natAbs.log2 < 9000 := ⟨Nat.lt_of_lt_of_le (PySem.Flt.log2_lt_of (by omega) h2) (by omega), Nat.lt_of_lt_of_le (PySem.Flt.log2_lt_of (by omega) hd) (by omega)⟩
        unfold xb_scaled_1
        clear h1 h2 hd hbp hle e lb l0 l1 l2 hbl hlen n0 hb9
        walk_at "ev")
  have hs : s = lcmF fs := hs
  subst hs
  refine run_nx (for_nx (ds := fs.map fd) (by walk_at "ev") hl) ?_
  have hc : lcL (K := K) (XG.name 2) .yes (.op O2.mul (.op O2.ixT (.var 2) (.int 0)) (.op O2.div (.var 1) (.op O2.ixT (.var 2) (.int 1)))) [.v (.d (.list (fs.map fd))), .v (.d (.int (lcmF fs))), .x] (fs.map fd) = some ((numF fs (lcmF fs)).map .int) := by
    unfold numF
    rw [List.map_map]
    refine lcL_map fun f hf => ?_
    have hd := F.den f hf
    have hn := F.num f hf
    have c1 : CDivW (lcmF fs) f.2 := divW (F.is f hf).pos hd (by omega)
    have c2 : CMulU f.1 (lcmF fs / f.2) := by
      refine mulU hn (b := 1 + b * fs.length) (Nat.lt_of_le_of_lt (ediv_abs (F.is f hf).pos (l2 f hf)) lb) ?_
      have : n * 2 ≤ (n + b + 2) * (fs.length + 2) := Nat.mul_le_mul (by omega) (by omega)
      omega
    rw [lcOne_eq]
    clear lb l0 l1 l2 hd hn hl hsb hbl hlen n0 hb9
    walk_at "ev"
    rfl
  have hlen1 : (fs.map fd).length ≤ 100000 := by
    rw [List.length_map]
    have : 1 * (fs.length + 2) ≤ (n + b + 2) * (fs.length + 2) := Nat.mul_le_mul (by omega) (Nat.le_refl _)
    omega
  have hg : ((XG.name 2 : XG K).T.all fun i => decide (i ∈ [2])) = true := rfl
  rcases hz with hz | ⟨a, hz⟩
  · have hz : z = .x := hz
    subst hz
    clear lb l0 l1 l2 hl hsb hbl hlen n0 hb9 hs hz
    walk_at "evh"
  · have hz : z = .v a := hz
    subst hz
    clear lb l0 l1 l2 hl hsb hbl hlen n0 hb9 hs hz
    walk_at "evh"
def addF (t x : Int × Int) : Int × Int := low (t.1 * x.2 + x.1 * t.2) (t.2 * x.2)
theorem isF_one : IsF (0, 1) := ⟨by decide, by decide⟩
structure AddP (fs pre : List (Int × Int)) (n b : Nat) (S : Int) (t : Int × Int) : Prop where
  is : IsF t
  num : t.1.natAbs < 2 ^ ((n + b + 2) * (pre.length + 1))
  den : t.2.natAbs < 2 ^ (b * pre.length + 1)
  val : t.1 * S = (numF pre S).sum * t.2
theorem add_step {fs pre post : List (Int × Int)} {x t : Int × Int} {n b : Nat} {S : Int} (F : Fs fs n b) (hS : S ≠ 0) (hd : ∀ f ∈ fs, f.2 ∣ S) (e : fs = pre ++ x :: post) (h : AddP fs pre n b S t) : AddP fs (pre ++ [x]) n b S (addF t x) ∧ Sz t x ((n + b + 2) * (pre.length + 1)) (b * pre.length + 1) b := by
  have hx : x ∈ fs := by rw [e]; simp
  have hle := le_len e
  have i := F.is x hx
  have nx := F.num x hx
  have dx := F.den x hx
  have n0 := F.n0
  have hlen := F.len
  have p1 := h.is.pos
  have p2 := i.pos
  have hq : t.2 * x.2 ≠ 0 := Int.mul_ne_zero (by omega) (by omega)
  have c1 : (n + b + 2) * (pre.length + 1) ≤ (n + b + 2) * (fs.length + 2) := Nat.mul_le_mul_left _ (by omega)
  have c2 : b * pre.length + b ≤ b * (fs.length + 1) := by rw [← Nat.mul_succ]; exact Nat.mul_le_mul_left _ (by omega)
  have c3 : (n + b + 2) * 1 ≤ (n + b + 2) * (pre.length + 1) := Nat.mul_le_mul_left _ (by omega)
  have c4 : b * (pre.length + 1) ≤ (n + b + 2) * (pre.length + 1) := Nat.mul_le_mul_right _ (by omega)
  have c5 : b * (pre.length + 1) = b * pre.length + b := Nat.mul_succ _ _
  have c6 : n + b * (pre.length + 1) ≤ (n + b + 2) * (pre.length + 1) := by
    rw [Nat.add_mul, Nat.add_mul]
    have := Nat.le_mul_of_pos_right n (show 0 < pre.length + 1 by omega)
    omega
  have sz : Sz t x ((n + b + 2) * (pre.length + 1)) (b * pre.length + 1) b := ⟨h.num, Nat.lt_of_lt_of_le nx (Nat.pow_le_pow_right (by decide) (by omega)), h.den, dx, ⟨by omega, by omega, by omega⟩, ⟨by omega, by omega⟩⟩
  refine ⟨⟨low_is hq, ?_, ?_, ?_⟩, sz⟩
  · refine Nat.lt_of_le_of_lt (low_bd1 hq) ?_
    rw [List.length_append, List.length_singleton]
    have a1 : (t.1 * x.2).natAbs < 2 ^ ((n + b + 2) * (pre.length + 1) + b) := mulB h.num dx
    have a2 : (x.1 * t.2).natAbs < 2 ^ ((n + b + 2) * (pre.length + 1) + b) := Nat.lt_of_lt_of_le (mulB nx h.den) (Nat.pow_le_pow_right (by decide) (by omega))
    have a3 : (2 : Nat) ^ ((n + b + 2) * (pre.length + 1) + b) + 2 ^ ((n + b + 2) * (pre.length + 1) + b) = 2 ^ ((n + b + 2) * (pre.length + 1) + b + 1) := by rw [Nat.pow_succ]; omega
    have a4 : (2 : Nat) ^ ((n + b + 2) * (pre.length + 1) + b + 1) ≤ 2 ^ ((n + b + 2) * (pre.length + 1 + 1)) := Nat.pow_le_pow_right (by decide) (by rw [Nat.mul_succ _ (pre.length + 1)]; omega)
    have a5 := Int.natAbs_add_le (t.1 * x.2) (x.1 * t.2)
    omega
  · refine Nat.lt_of_le_of_lt (low_bd2 hq) ?_
    rw [List.length_append, List.length_singleton]
    refine Nat.lt_of_lt_of_le (mulB h.den dx) (Nat.pow_le_pow_right (by decide) ?_)
    rw [Nat.mul_succ]; omega
  · have v := low_val (p := t.1 * x.2 + x.1 * t.2) hq
    show (low (t.1 * x.2 + x.1 * t.2) (t.2 * x.2)).1 * S = _ * (low (t.1 * x.2 + x.1 * t.2) (t.2 * x.2)).2
    have hn : (numF (pre ++ [x]) S).sum = (numF pre S).sum + x.1 * (S / x.2) := by unfold numF; simp
    rw [hn]
    obtain ⟨m, hm⟩ := hd x hx
    have hm2 : S / x.2 = m := by rw [hm, Int.mul_ediv_cancel_left _ (by omega)]
    rw [hm2]
    refine Int.eq_of_mul_eq_mul_right hq ?_
    have hv := h.val
    generalize (low (t.1 * x.2 + x.1 * t.2) (t.2 * x.2)).1 = u at *
    generalize (low (t.1 * x.2 + x.1 * t.2) (t.2 * x.2)).2 = w at *
    generalize (numF pre S).sum = N at *
    calc u * S * (t.2 * x.2) = (u * (t.2 * x.2)) * S := by grind
      _ = (t.1 * x.2 + x.1 * t.2) * w * S := by rw [v]
      _ = (t.1 * S) * (x.2 * w) + x.1 * t.2 * w * S := by grind
      _ = (N * t.2) * (x.2 * w) + x.1 * t.2 * w * (x.2 * m) := by rw [hv, ← hm]
      _ = (N + x.1 * m) * w * (t.2 * x.2) := by grind
theorem f_law_added {fs : List (Int × Int)} {n b : Nat} (F : Fs fs n b) : (fn_law_added T).f [fvs fs] = .ok (.d (fd (low (numF fs (lcmF fs)).sum (lcmF fs)))) := by
  obtain ⟨l0, -, l2⟩ := lcm_fold fs 1 (by decide) fun f hf => (F.is f hf).pos
  have hS : lcmF fs ≠ 0 := by have : 0 < lcmF fs := l0; omega
  have n0 := F.n0
  rw [fnf_law_added]
  refine runX_of ?_
  unfold xs_law_added
  refine run_nx (st1 := [.v (.d (.list (fs.map fd))), .v (.d (fd (0, 1))), .x]) (by unfold fvs; walk_at "ev") ?_
  obtain ⟨⟨t, z⟩, ht, hl⟩ := lp_ex (K := K) (g := .name 2) (s := xb_law_added_1 T) (en := fd) (xs := fs) (fun y : (Int × Int) × Sv => [.v (.d (.list (fs.map fd))), .v (.d (fd y.1)), y.2])
    (fun pre y => AddP fs pre n b (lcmF fs) y.1) (x0 := ((0, 1), .x)) ⟨isF_one, Nat.two_pow_pos _, by show 1 < 2 ^ (b * 0 + 1); rw [Nat.mul_zero]; decide, by simp [numF]⟩ (by
      rintro pre x post ⟨t, z⟩ e h
      obtain ⟨h1, sz⟩ := add_step F hS l2 e h
      have hx : x ∈ fs := by rw [e]; simp
      have p1 := h.is.pos
      have p2 := (F.is x hx).pos
      have hp := f_law_plus T sz (by omega) (by omega)
      have hm := fnm_law_plus T
      refine ⟨(addF t x, .v (.d (fd x))), h1, _, by walk_at "ev"; rfl, .inl ?_⟩
      unfold xb_law_added_1 addF
      clear h1 sz h p1 p2 n0 l2 l0
      walk_at "evh")
  refine run_nx (for_nx (ds := fs.map fd) (by walk_at "ev") hl) ?_
  have ht : AddP fs fs n b (lcmF fs) t := ht
  have hp := ht.is.pos
  have e : low (numF fs (lcmF fs)).sum (lcmF fs) = t := by
    rw [← low_self ht.is]
    exact low_ext hS (by omega) ht.val.symm
  rw [e]
  clear hl n0 l2 l0
  walk_at "ev"
end Q

set_option Elab.async false
set_option linter.all false
set_option maxRecDepth 100000
set_option maxHeartbeats 4000000
namespace Q
open PySem PySem.Spec PyProof.Rows L2 Z R QF
local macro_rules | `(tactic| walk_at "ds") => `(tactic| first | assumption | decide | omega | exact ⟨by decide, by decide⟩ | exact ⟨by omega, by omega⟩ | exact div_lit ⟨by omega, by omega⟩ | exact mul_r (by omega) | exact mul_l (by omega))
local macro_rules | `(tactic| walk_at "ev") => `(tactic| simp (disch := walk_at "ds") only [bind_ok, bind_ex, bind_no, oc_k, oc_x, oc_n, of_some, of_none, okV_ok, okV_ex, okV_no, bOf_b, iOf_i, asL_l, asS_l, asS_s, lOf_l, var_ev, var_el, var_es, int_ev, bool_ev, non_ev, str_ev, av_f, av_t, op_ev, op_el, op_es, opN_ev, e_ev, e_el, e_es, neg_ev, bv_eq, iv_eq, andV_ev, orV_ev, notV_ev, ife_ev, ife_el, ife_es, chain_ev, inK_ev, setfld_ev, tup_ev, dev_eq, avD_nil, avD_cons, lst_ev, anil_ev, acons_ev, bi_ev, biN_ev, call_ev, call_el, call_es, callN_ev, meth_ev, meth_el, meth_es, methN_ev, make_ev, fld_ev, fld_el, fld_es, test_ev, B_ev, and_ev, or_ev, not_ev, truthL_ev, ifeT_ev, yes_ev, onone_ev, osome_ev, sl_ev, slS_ev, lend_ev, blank_ev, ilist_ev, irng1_ev, irng2_ev, avI1_i, avI2_i, ienum_ev, izip_ev, gname_ev, gnil_ev, gcons_ev, gtup_ev, glst_ev, lc_ev, nx_ev, brk_ev, cnt_ev, seq_ev, set_ev, setN_ev, asg_ev, par_ev, aug_ev, seti_ev, app_ev, ite_ev, ret_ev, retN_ev, retO_ev, retV_ev, drop_ev, frz_ev, for_ev, lp_nil, raise_ev, try_ev, add_ka, add_kb, add_f, sub_ka, sub_kb, sub_f, band_ka, band_kb, band_f, lt_ka, lt_kb, lt_f, le_ka, le_kb, le_f, gt_ka, gt_kb, gt_f, ge_ka, ge_kb, ge_f, mul_ka, mul_kb, div_ka, div_kb, divU_ka, divU_kb, mod_ka, mod_kb, pow_ka, pow_kb, shl_ka, shl_kb, shr_ka, shr_kb, eq_ka, eq_kb, ne_ka, ne_kb, eqD_ka, eqD_kb, neD_ka, neD_kb, isN_ka, isN_kb, notN_ka, notN_kb, isB_ka, isB_kb, notB_ka, notB_kb, ixS_ka, ixS_kb, ixT_ka, ixT_kb, neL_ka, neL_kb, ixL_ka, ixL_kb, inL_ka, inL_kb, notInL_ka, notInL_kb, cat_ka, cat_kb, rep_ka, rep_kb, eq_i, eq_s, ne_i, ne_s, isB_f, notB_f, isN_f, notN_f, ixL_f, ixT_f, ixS_f, len_f, lenS_f, abs_f, min2_f, max2_f, int_f, intB_f, gcd_f, listN_f, runX_eq, res_rt, res_ro, res_nx, res_xc, at0, at1, at2, rng_if, lcL_nil, mul_f, div_f, divU_f, mod_f, pow_f, shl_f, shr_f, cat_f, lcm_f, repr_f, List.getElem?_cons_zero, List.getElem?_cons_succ, List.set_cons_zero, List.set_cons_succ, List.length_cons, List.length_nil, Nat.reduceAdd, Nat.reduceLT, Nat.reduceLeDiff, Nat.reduceEqDiff, if_true, if_false, Option.map_some, Option.map_none, Option.bind_some, Option.bind_none, reduceIte, decide_true, decide_false, R.start, avS, R.frz, at0, at1, at2, allXb, Sv.isX, List.all_cons, List.all_nil, Bool.and_true, Bool.true_and, Bool.and_false, Bool.false_and, List.flatten_cons, List.map_cons, List.map_nil, List.cons_append, List.nil_append, List.replicate_succ, List.replicate_zero, Bool.not_true, Bool.not_false, Nat.reduceMul, Nat.reduceSub, Nat.zero_add, and_self, and_true, true_and, and_false, false_and])
local macro_rules | `(tactic| walk_at "evh") => `(tactic| simp (disch := walk_at "ds") only [bind_ok, bind_ex, bind_no, oc_k, oc_x, oc_n, of_some, of_none, okV_ok, okV_ex, okV_no, bOf_b, iOf_i, asL_l, asS_l, asS_s, lOf_l, var_ev, var_el, var_es, int_ev, bool_ev, non_ev, str_ev, av_f, av_t, op_ev, op_el, op_es, opN_ev, e_ev, e_el, e_es, neg_ev, bv_eq, iv_eq, andV_ev, orV_ev, notV_ev, ife_ev, ife_el, ife_es, chain_ev, inK_ev, setfld_ev, tup_ev, dev_eq, avD_nil, avD_cons, lst_ev, anil_ev, acons_ev, bi_ev, biN_ev, call_ev, call_el, call_es, callN_ev, meth_ev, meth_el, meth_es, methN_ev, make_ev, fld_ev, fld_el, fld_es, test_ev, B_ev, and_ev, or_ev, not_ev, truthL_ev, ifeT_ev, yes_ev, onone_ev, osome_ev, sl_ev, slS_ev, lend_ev, blank_ev, ilist_ev, irng1_ev, irng2_ev, avI1_i, avI2_i, ienum_ev, izip_ev, gname_ev, gnil_ev, gcons_ev, gtup_ev, glst_ev, lc_ev, nx_ev, brk_ev, cnt_ev, seq_ev, set_ev, setN_ev, asg_ev, par_ev, aug_ev, seti_ev, app_ev, ite_ev, ret_ev, retN_ev, retO_ev, retV_ev, drop_ev, frz_ev, for_ev, lp_nil, raise_ev, try_ev, add_ka, add_kb, add_f, sub_ka, sub_kb, sub_f, band_ka, band_kb, band_f, lt_ka, lt_kb, lt_f, le_ka, le_kb, le_f, gt_ka, gt_kb, gt_f, ge_ka, ge_kb, ge_f, mul_ka, mul_kb, div_ka, div_kb, divU_ka, divU_kb, mod_ka, mod_kb, pow_ka, pow_kb, shl_ka, shl_kb, shr_ka, shr_kb, eq_ka, eq_kb, ne_ka, ne_kb, eqD_ka, eqD_kb, neD_ka, neD_kb, isN_ka, isN_kb, notN_ka, notN_kb, isB_ka, isB_kb, notB_ka, notB_kb, ixS_ka, ixS_kb, ixT_ka, ixT_kb, neL_ka, neL_kb, ixL_ka, ixL_kb, inL_ka, inL_kb, notInL_ka, notInL_kb, cat_ka, cat_kb, rep_ka, rep_kb, eq_i, eq_s, ne_i, ne_s, isB_f, notB_f, isN_f, notN_f, ixL_f, ixT_f, ixS_f, len_f, lenS_f, abs_f, min2_f, max2_f, int_f, intB_f, gcd_f, listN_f, runX_eq, res_rt, res_ro, res_nx, res_xc, at0, at1, at2, rng_if, lcL_nil, mul_f, div_f, divU_f, mod_f, pow_f, shl_f, shr_f, cat_f, lcm_f, repr_f, List.getElem?_cons_zero, List.getElem?_cons_succ, List.set_cons_zero, List.set_cons_succ, List.length_cons, List.length_nil, Nat.reduceAdd, Nat.reduceLT, Nat.reduceLeDiff, Nat.reduceEqDiff, if_true, if_false, Option.map_some, Option.map_none, Option.bind_some, Option.bind_none, reduceIte, decide_true, decide_false, R.start, avS, R.frz, at0, at1, at2, allXb, Sv.isX, List.all_cons, List.all_nil, Bool.and_true, Bool.true_and, Bool.and_false, Bool.false_and, List.flatten_cons, List.map_cons, List.map_nil, List.cons_append, List.nil_append, List.replicate_succ, List.replicate_zero, Bool.not_true, Bool.not_false, Nat.reduceMul, Nat.reduceSub, Nat.zero_add, and_self, and_true, true_and, and_false, false_and, *])
variable {K : PySem.W.Frag} {mg : Str → Option Value} (T : Tx K mg)
theorem atI_in {α β : Type} {en : α → β} {xs : List α} {i : Int} {x : α} (h0 : 0 ≤ i) (h : xs[i.toNat]? = some x) : atI (xs.map en) i = some (en x) := by
  have hl : i.toNat < xs.length := (List.getElem?_eq_some_iff.mp h).1
  have : i < (((xs.map en).length : Nat) : Int) := by rw [List.length_map]; omega
  unfold atI ixN
  rw [if_pos h0, if_pos this]
  show (xs.map en)[i.toNat]? = _
  rw [List.getElem?_map, h]
  rfl
theorem ixN_in {n : Nat} {i : Int} (h0 : 0 ≤ i) (h : i < n) : ixN n i = some i.toNat := by
  unfold ixN
  rw [if_pos h0, if_pos h]
/-- numbers as the law draws them -/
structure Nums (ns : List Int) (m : Nat) : Prop where
  len : ns.length = m
  bd : ∀ n ∈ ns, 0 ≤ n ∧ n < 65536
theorem Nums.at_ {ns : List Int} {m : Nat} (h : Nums ns m) {i : Int} (h0 : 0 ≤ i) (h1 : i < m) : ∃ v, ns[i.toNat]? = some v ∧ atI (ns.map PyData.int) i = some (.int v) ∧ 0 ≤ v ∧ v < 65536 := by
  have hl : i.toNat < ns.length := by rw [h.len]; omega
  have e : ns[i.toNat]? = some ns[i.toNat] := List.getElem?_eq_getElem hl
  exact ⟨_, e, atI_in h0 e, h.bd _ (List.getElem_mem hl)⟩
def nv (ns : List Int) : Av := .v (.d (.list (ns.map .int)))
theorem cutD_all {ds : List PyData} {k : Int} (h0 : 0 ≤ k) (h : (ds.length : Int) ≤ k) : Z.cutD ds none (some k) = ds := by
  unfold Z.cutD
  have e1 : HT.sIx ds.length 0 none = 0 := rfl
  have e2 : HT.sIx ds.length ds.length (some k) = ds.length := by
    show (if k < 0 then _ else min k.toNat ds.length) = _
    rw [if_neg (by omega)]
    omega
  rw [e1, e2]
  simp
theorem cutD_init {ds : List PyData} {d : PyData} : Z.cutD (ds ++ [d]) none (some (-1)) = ds := by
  unfold Z.cutD
  have e1 : HT.sIx (ds ++ [d]).length 0 none = 0 := rfl
  have e2 : HT.sIx (ds ++ [d]).length (ds ++ [d]).length (some (-1)) = ds.length := by
    show (if (-1 : Int) < 0 then ((-1 : Int) + ((ds ++ [d]).length : Int)).toNat else min (-1 : Int).toNat (ds ++ [d]).length) = _
    rw [if_pos (by decide), List.length_append, List.length_singleton]
    omega
  rw [e1, e2]
  simp
def absI (n : Int) : Int := if n < 0 then -n else n
theorem map_set_int (xs : List Int) (j : Nat) (v : Int) : (xs.map PyData.int).set j (.int v) = (xs.set j v).map .int := by rw [List.map_set]
theorem app_int (xs : List Int) (v : Int) : xs.map PyData.int ++ [.int v] = (xs ++ [v]).map .int := by rw [List.map_append]; rfl
structure NumP (L : Nat) (c : Nat) (y : List Int × List Int × List Int × Sv × Sv) : Prop where
  r : y.1.length = L
  m : y.2.1.length = L
  n : Nums y.2.2.1 c
def numE (xs : List Int) (many : Nat) (y : List Int × List Int × List Int × Sv × Sv) : List Sv := [.v (.s xs), .v (.d (.int many)), .ol (y.1.map .int), .ol (y.2.1.map .int), .ol (y.2.2.1.map .int), y.2.2.2.1, y.2.2.2.2, .x]
theorem num_loop {xs : List Int} {many L : Nat} (hL : 0 < L) (hm : many ≤ 100000) {y0 : List Int × List Int × List Int × Sv × Sv} (h0 : NumP L 0 y0) : ∃ y, NumP L many y ∧ lp (K := K) (.name 5) (xb_law_numbers_1 T) (irange 0 many) (numE xs many y0) = .nx (numE xs many y) := by
  obtain ⟨y, hy, hl⟩ := lp_ex (K := K) (g := .name 5) (s := xb_law_numbers_1 T) (en := fun k : Nat => PyData.int (0 + (k : Int))) (xs := List.range many) (numE xs many) (fun pre y => NumP L pre.length y) (x0 := y0) h0 (by
    rintro pre k post ⟨r, m, n, z5, z6⟩ e ⟨hr, hm2, hn⟩
    have hr : r.length = L := hr
    have hm2 : m.length = L := hm2
    have hn : Nums n pre.length := hn
    have hlen := le_len e
    rw [List.length_range] at hlen
    have a0 : 0 ≤ (0 + (k : Int)) % (((r.map PyData.int).length : Nat) : Int) := Int.emod_nonneg _ (by rw [List.length_map]; omega)
    have a1 : (0 + (k : Int)) % (((r.map PyData.int).length : Nat) : Int) < L := by
      have := Int.emod_lt_of_pos (0 + (k : Int)) (b := (((r.map PyData.int).length : Nat) : Int)) (by rw [List.length_map]; omega)
      rw [List.length_map] at this ⊢
      omega
    have pl : (0 : Int) < (((r.map PyData.int).length : Nat) : Int) := by rw [List.length_map]; omega
    obtain ⟨at_, hat⟩ : ∃ a, a = (0 + (k : Int)) % (((r.map PyData.int).length : Nat) : Int) := ⟨_, rfl⟩
    rw [← hat] at a0 a1
    have i1 : at_.toNat < r.length := by omega
    have i2 : at_.toNat < m.length := by omega
    have e1 : atI (r.map PyData.int) at_ = some (.int r[at_.toNat]) := atI_in a0 (List.getElem?_eq_getElem i1)
    have e2 : atI (m.map PyData.int) at_ = some (.int m[at_.toNat]) := atI_in a0 (List.getElem?_eq_getElem i2)
    have x1 : ixN (r.map PyData.int).length at_ = some at_.toNat := ixN_in a0 (by rw [List.length_map]; omega)
    have x2 : ixN (m.map PyData.int).length at_ = some at_.toNat := ixN_in a0 (by rw [List.length_map]; omega)
    have hn1 : (n.map PyData.int).length < 1000000 := by rw [List.length_map, hn.len]; omega
    have ap : ∀ v : Int, 0 ≤ v → v < 65536 → Nums (n ++ [v]) (pre ++ [k]).length := fun v h1 h2 => ⟨by rw [List.length_append, List.length_append, hn.len]; rfl, fun w hw => by
      rcases List.mem_append.mp hw with z | z
      · exact hn.bd w z
      · rw [List.mem_singleton.mp z]; exact ⟨h1, h2⟩⟩
    have set1 : (XS.set 6 (.op O2.mod (.bi Bi.int (.cons false (.var 5) .nil)) (.bi Bi.len (.cons true (.var 2) .nil))) : XS K).ev [.v (.s xs), .v (.d (.int many)), .ol (r.map .int), .ol (m.map .int), .ol (n.map .int), .v (.d (.int (0 + (k : Int)))), z6, .x] = .nx [.v (.s xs), .v (.d (.int many)), .ol (r.map .int), .ol (m.map .int), .ol (n.map .int), .v (.d (.int (0 + (k : Int)))), .v (.d (.int at_)), .x] := by
      rw [hat]
      clear hat e1 e2 x1 x2 hn1 ap a0 a1 i1 i2 e hr hm2 hn
      walk_at "ev"
    generalize r[at_.toNat] = R at e1
    generalize m[at_.toNat] = M at e2
    by_cases c : (10 : Int) ^ (18 : Int).toNat ≤ R
    · have c' : decide ((10 : Int) ^ (18 : Int).toNat ≤ R) = true := decide_eq_true c
      refine ⟨(r.set at_.toNat (R / 65536), m, n ++ [R % 65536], .v (.d (.int (0 + (k : Int)))), .v (.d (.int at_))), ⟨by show (r.set _ _).length = L; rw [List.length_set]; exact hr, hm2, ap _ (Int.emod_nonneg _ (by decide)) (Int.emod_lt_of_pos _ (by decide))⟩, _, by unfold numE; walk_at "ev"; rfl, .inl ?_⟩
      unfold xb_law_numbers_1 numE
      refine run_nx set1 ?_
      rw [← map_set_int, ← app_int]
      clear hat a0 a1 i1 i2 e hr hm2 hn ap set1 c pl
      walk_at "evh"
    · have c' : decide ((10 : Int) ^ (18 : Int).toNat ≤ R) = false := decide_eq_false c
      obtain ⟨M2, hM2⟩ : ∃ M2, M2 = (M * 16807 + 12345 + 7919 * (0 + (k : Int))) % 2147483647 := ⟨_, rfl⟩
      have e3 : atI ((m.map PyData.int).set at_.toNat (.int M2)) at_ = some (.int M2) := by
        rw [map_set_int]
        exact atI_in a0 (by rw [List.getElem?_set_self i2])
      refine ⟨(r, m.set at_.toNat M2, n ++ [(R + M2 / 5) % 65536], .v (.d (.int (0 + (k : Int)))), .v (.d (.int at_))), ⟨hr, by show (m.set _ _).length = L; rw [List.length_set]; exact hm2, ap _ (Int.emod_nonneg _ (by decide)) (Int.emod_lt_of_pos _ (by decide))⟩, _, by unfold numE; walk_at "ev"; rfl, .inl ?_⟩
      unfold xb_law_numbers_1 numE
      refine run_nx set1 ?_
      rw [← map_set_int, ← app_int]
      clear hat a0 a1 i1 i2 e hr hm2 hn ap set1 c pl
      subst hM2
      walk_at "evh")
  rw [List.length_range] at hy
  exact ⟨y, hy, hl⟩
end Q

set_option Elab.async false
set_option linter.all false
set_option maxRecDepth 100000
set_option maxHeartbeats 4000000
namespace Q
open PySem PySem.Spec PyProof.Rows L2 Z R QF
local macro_rules | `(tactic| walk_at "ds") => `(tactic| first | assumption | decide | omega | exact ⟨by decide, by decide⟩ | exact ⟨by omega, by omega⟩ | exact div_lit ⟨by omega, by omega⟩ | exact mul_r (by omega) | exact mul_l (by omega))
local macro_rules | `(tactic| walk_at "ev") => `(tactic| simp (disch := walk_at "ds") only [bind_ok, bind_ex, bind_no, oc_k, oc_x, oc_n, of_some, of_none, okV_ok, okV_ex, okV_no, bOf_b, iOf_i, asL_l, asS_l, asS_s, lOf_l, var_ev, var_el, var_es, int_ev, bool_ev, non_ev, str_ev, av_f, av_t, op_ev, op_el, op_es, opN_ev, e_ev, e_el, e_es, neg_ev, bv_eq, iv_eq, andV_ev, orV_ev, notV_ev, ife_ev, ife_el, ife_es, chain_ev, inK_ev, setfld_ev, tup_ev, dev_eq, avD_nil, avD_cons, lst_ev, anil_ev, acons_ev, bi_ev, biN_ev, call_ev, call_el, call_es, callN_ev, meth_ev, meth_el, meth_es, methN_ev, make_ev, fld_ev, fld_el, fld_es, test_ev, B_ev, and_ev, or_ev, not_ev, truthL_ev, ifeT_ev, yes_ev, onone_ev, osome_ev, sl_ev, slS_ev, lend_ev, blank_ev, ilist_ev, irng1_ev, irng2_ev, avI1_i, avI2_i, ienum_ev, izip_ev, gname_ev, gnil_ev, gcons_ev, gtup_ev, glst_ev, lc_ev, nx_ev, brk_ev, cnt_ev, seq_ev, set_ev, setN_ev, asg_ev, par_ev, aug_ev, seti_ev, app_ev, ite_ev, ret_ev, retN_ev, retO_ev, retV_ev, drop_ev, frz_ev, for_ev, lp_nil, raise_ev, try_ev, add_ka, add_kb, add_f, sub_ka, sub_kb, sub_f, band_ka, band_kb, band_f, lt_ka, lt_kb, lt_f, le_ka, le_kb, le_f, gt_ka, gt_kb, gt_f, ge_ka, ge_kb, ge_f, mul_ka, mul_kb, div_ka, div_kb, divU_ka, divU_kb, mod_ka, mod_kb, pow_ka, pow_kb, shl_ka, shl_kb, shr_ka, shr_kb, eq_ka, eq_kb, ne_ka, ne_kb, eqD_ka, eqD_kb, neD_ka, neD_kb, isN_ka, isN_kb, notN_ka, notN_kb, isB_ka, isB_kb, notB_ka, notB_kb, ixS_ka, ixS_kb, ixT_ka, ixT_kb, neL_ka, neL_kb, ixL_ka, ixL_kb, inL_ka, inL_kb, notInL_ka, notInL_kb, cat_ka, cat_kb, rep_ka, rep_kb, eq_i, eq_s, ne_i, ne_s, isB_f, notB_f, isN_f, notN_f, ixL_f, ixT_f, ixS_f, len_f, lenS_f, abs_f, min2_f, max2_f, int_f, intB_f, gcd_f, listN_f, runX_eq, res_rt, res_ro, res_nx, res_xc, at0, at1, at2, rng_if, lcL_nil, mul_f, div_f, divU_f, mod_f, pow_f, shl_f, shr_f, cat_f, lcm_f, repr_f, List.getElem?_cons_zero, List.getElem?_cons_succ, List.set_cons_zero, List.set_cons_succ, List.length_cons, List.length_nil, Nat.reduceAdd, Nat.reduceLT, Nat.reduceLeDiff, Nat.reduceEqDiff, if_true, if_false, Option.map_some, Option.map_none, Option.bind_some, Option.bind_none, reduceIte, decide_true, decide_false, R.start, avS, R.frz, at0, at1, at2, allXb, Sv.isX, List.all_cons, List.all_nil, Bool.and_true, Bool.true_and, Bool.and_false, Bool.false_and, List.flatten_cons, List.map_cons, List.map_nil, List.cons_append, List.nil_append, List.replicate_succ, List.replicate_zero, Bool.not_true, Bool.not_false, Nat.reduceMul, Nat.reduceSub, Nat.zero_add, and_self, and_true, true_and, and_false, false_and])
local macro_rules | `(tactic| walk_at "evh") => `(tactic| simp (disch := walk_at "ds") only [bind_ok, bind_ex, bind_no, oc_k, oc_x, oc_n, of_some, of_none, okV_ok, okV_ex, okV_no, bOf_b, iOf_i, asL_l, asS_l, asS_s, lOf_l, var_ev, var_el, var_es, int_ev, bool_ev, non_ev, str_ev, av_f, av_t, op_ev, op_el, op_es, opN_ev, e_ev, e_el, e_es, neg_ev, bv_eq, iv_eq, andV_ev, orV_ev, notV_ev, ife_ev, ife_el, ife_es, chain_ev, inK_ev, setfld_ev, tup_ev, dev_eq, avD_nil, avD_cons, lst_ev, anil_ev, acons_ev, bi_ev, biN_ev, call_ev, call_el, call_es, callN_ev, meth_ev, meth_el, meth_es, methN_ev, make_ev, fld_ev, fld_el, fld_es, test_ev, B_ev, and_ev, or_ev, not_ev, truthL_ev, ifeT_ev, yes_ev, onone_ev, osome_ev, sl_ev, slS_ev, lend_ev, blank_ev, ilist_ev, irng1_ev, irng2_ev, avI1_i, avI2_i, ienum_ev, izip_ev, gname_ev, gnil_ev, gcons_ev, gtup_ev, glst_ev, lc_ev, nx_ev, brk_ev, cnt_ev, seq_ev, set_ev, setN_ev, asg_ev, par_ev, aug_ev, seti_ev, app_ev, ite_ev, ret_ev, retN_ev, retO_ev, retV_ev, drop_ev, frz_ev, for_ev, lp_nil, raise_ev, try_ev, add_ka, add_kb, add_f, sub_ka, sub_kb, sub_f, band_ka, band_kb, band_f, lt_ka, lt_kb, lt_f, le_ka, le_kb, le_f, gt_ka, gt_kb, gt_f, ge_ka, ge_kb, ge_f, mul_ka, mul_kb, div_ka, div_kb, divU_ka, divU_kb, mod_ka, mod_kb, pow_ka, pow_kb, shl_ka, shl_kb, shr_ka, shr_kb, eq_ka, eq_kb, ne_ka, ne_kb, eqD_ka, eqD_kb, neD_ka, neD_kb, isN_ka, isN_kb, notN_ka, notN_kb, isB_ka, isB_kb, notB_ka, notB_kb, ixS_ka, ixS_kb, ixT_ka, ixT_kb, neL_ka, neL_kb, ixL_ka, ixL_kb, inL_ka, inL_kb, notInL_ka, notInL_kb, cat_ka, cat_kb, rep_ka, rep_kb, eq_i, eq_s, ne_i, ne_s, isB_f, notB_f, isN_f, notN_f, ixL_f, ixT_f, ixS_f, len_f, lenS_f, abs_f, min2_f, max2_f, int_f, intB_f, gcd_f, listN_f, runX_eq, res_rt, res_ro, res_nx, res_xc, at0, at1, at2, rng_if, lcL_nil, mul_f, div_f, divU_f, mod_f, pow_f, shl_f, shr_f, cat_f, lcm_f, repr_f, List.getElem?_cons_zero, List.getElem?_cons_succ, List.set_cons_zero, List.set_cons_succ, List.length_cons, List.length_nil, Nat.reduceAdd, Nat.reduceLT, Nat.reduceLeDiff, Nat.reduceEqDiff, if_true, if_false, Option.map_some, Option.map_none, Option.bind_some, Option.bind_none, reduceIte, decide_true, decide_false, R.start, avS, R.frz, at0, at1, at2, allXb, Sv.isX, List.all_cons, List.all_nil, Bool.and_true, Bool.true_and, Bool.and_false, Bool.false_and, List.flatten_cons, List.map_cons, List.map_nil, List.cons_append, List.nil_append, List.replicate_succ, List.replicate_zero, Bool.not_true, Bool.not_false, Nat.reduceMul, Nat.reduceSub, Nat.zero_add, and_self, and_true, true_and, and_false, false_and, *])
variable {K : PySem.W.Frag} {mg : Str → Option Value} (T : Tx K mg)
theorem num_tail {xs : List Int} {many : Nat} (hm : many ≤ 100000) : ∀ rest : List Int, 0 < rest.length → rest.length ≤ 64 → ∃ ns, Nums ns many ∧ (XS.seq (.setN 3 (.lend 2 (.lc (.list (.var 2)) (.name 7) .yes (.op O2.mod (.bi Bi.int (.cons false (.op O2.add (.op O2.mul (.var 7) (.int 48271)) (.int 11)) .nil)) (.int 2147483647)) [7])))
    (.seq (.setN 4 (.lst .nil))
    (.seq (.for_ (.range1 (.cons false (.var 1) .nil)) (.name 5) (xb_law_numbers_1 T))
    (.frz 4 (.ret (.var 4))))) : XS K).ev [.v (.s xs), .v (.d (.int many)), .ol (rest.map .int), .x, .x, .x, .x, .x] = .rt (.d (.list (ns.map .int))) := by
  intro rest h0 h1
  have hl2 : (rest.map PyData.int).length ≤ 100000 := by rw [List.length_map]; omega
  have hc2 : lcL (K := K) (.name 7) .yes (.op O2.mod (.bi Bi.int (.cons false (.op O2.add (.op O2.mul (.var 7) (.int 48271)) (.int 11)) .nil)) (.int 2147483647)) [.v (.s xs), .v (.d (.int many)), .bl (rest.map .int), .x, .x, .x, .x, .x] (rest.map .int) = some ((rest.map fun x => (x * 48271 + 11) % 2147483647).map .int) := by
    rw [List.map_map]
    refine lcL_map fun x _ => ?_
    rw [lcOne_eq]
    clear hl2 h0 h1 hm
    walk_at "ev"
    rfl
  obtain ⟨y, hy, hl⟩ := num_loop T (xs := xs) (many := many) (L := rest.length) h0 hm (y0 := (rest, rest.map fun x => (x * 48271 + 11) % 2147483647, [], .x, .x)) ⟨rfl, by show (rest.map _).length = _; rw [List.length_map], ⟨rfl, fun _ z => nomatch z⟩⟩
  have hg : ((XG.name 7 : XG K).T.all fun i => decide (i ∈ [7])) = true := rfl
  refine ⟨y.2.2.1, hy.n, ?_⟩
  refine run_nx (st1 := [.v (.s xs), .v (.d (.int many)), .ol (rest.map .int), .ol ((rest.map fun x => (x * 48271 + 11) % 2147483647).map .int), .x, .x, .x, .x]) ?_ ?_
  · clear h0 h1 hm hl hy
    walk_at "evh"
  refine run_nx (st1 := [.v (.s xs), .v (.d (.int many)), .ol (rest.map .int), .ol ((rest.map fun x => (x * 48271 + 11) % 2147483647).map .int), .ol [], .x, .x, .x]) (by walk_at "ev") ?_
  refine run_nx (for_nx (ds := irange 0 many) ?_ hl) ?_
  · have hr : (many : Int).natAbs < 4611686018427387904 := by omega
    clear hl2 h0 h1 hm hl hy hc2
    walk_at "ev"
    rfl
  · unfold numE
    clear hl2 h0 h1 hm hl hy hc2
    walk_at "ev"
theorem f_numbers {xs : List Int} (hx : xs.length ≤ 63) {many : Nat} (hm : many ≤ 100000) : ∃ ns, Nums ns many ∧ (fn_law_numbers T).f [.v (.s xs), iv many] = .ok (.d (.list (ns.map .int))) := by
  have hcut : Z.cutD (xs.map PyData.int) none (some 63) = xs.map .int := cutD_all (by decide) (by rw [List.length_map]; omega)
  have hl1 : (xs.map PyData.int).length ≤ 100000 := by rw [List.length_map]; omega
  have hab : ∀ n : Int, (if n < 0 then -n else n) = absI n := fun n => rfl
  have hc1 : lcL (K := K) (.name 7) .yes (.bi Bi.abs (.cons false (.var 7) .nil)) [.v (.s xs), .v (.d (.int many)), .x, .x, .x, .x, .x, .x] (xs.map .int) = some ((xs.map absI).map .int) := by
    rw [List.map_map]
    refine lcL_map fun x _ => ?_
    rw [lcOne_eq]
    clear hcut hl1
    walk_at "ev"
    rfl
  have hcat : ((xs.map absI).map PyData.int).length + [PyData.int 0].length ≤ 1000000 := by simp; omega
  have fin := num_tail (K := K) T (xs := xs) (many := many) hm
  rw [fnf_law_numbers]
  have hg : ((XG.name 7 : XG K).T.all fun i => decide (i ∈ [7])) = true := rfl
  have s1 : (XS.setN 2 (.op O2N.cat (XN.lc (.list (XN.slS (.var 0) .none (.some (.int 63))).e) (.name 7) .yes (.bi Bi.abs (.cons false (.var 7) .nil)) [7]).e (XN.lst (.cons false (.int 0) .nil)).e) : XS K).ev (R.start [.v (.s xs), iv many] 6) = .nx [.v (.s xs), .v (.d (.int many)), .ol ((xs.map absI).map .int ++ [.int 0]), .x, .x, .x, .x, .x] := by
    clear fin hm hx hab
    walk_at "evh"
  by_cases h : xs = []
  · obtain ⟨ns, hn, hf⟩ := fin [0] (by decide) (by decide)
    refine ⟨ns, hn, ?_⟩
    refine runX_of ?_
    unfold xs_law_numbers
    have es : ((xs.map absI).map PyData.int ++ [.int 0]) = ([0] : List Int).map PyData.int := by rw [h]; rfl
    rw [es] at s1
    refine run_nx s1 (run_nx (ite_f ?_ rfl) hf)
    have hc : decide ((0 : Int) < (xs.length : Nat)) = false := decide_eq_false (by rw [h]; decide)
    clear s1 hf fin hc1 hcat hcut hl1 hm hx hab hn es h
    walk_at "evh"
  · obtain ⟨ns, hn, hf⟩ := fin (xs.map absI) (by rw [List.length_map]; exact List.length_pos_iff.mpr h) (by rw [List.length_map]; omega)
    refine ⟨ns, hn, ?_⟩
    refine runX_of ?_
    unfold xs_law_numbers
    refine run_nx s1 (run_nx ?_ hf)
    have hc : decide ((0 : Int) < (xs.length : Nat)) = true := decide_eq_true (by have := List.length_pos_iff.mpr h; omega)
    have hcut2 : Z.cutD ((xs.map absI).map PyData.int ++ [.int 0]) none (some (-1)) = (xs.map absI).map .int := cutD_init
    clear s1 hf fin hc1 hcat hcut hl1 hm hx hab hn h
    walk_at "evh"
end Q

set_option Elab.async false
set_option linter.all false
set_option maxRecDepth 100000
set_option maxHeartbeats 4000000
namespace Q
open PySem PySem.Spec PyProof.Rows L2 Z R QF
local macro_rules | `(tactic| walk_at "ds") => `(tactic| first | assumption | decide | omega | exact ⟨by decide, by decide⟩ | exact ⟨by omega, by omega⟩ | exact div_lit ⟨by omega, by omega⟩ | exact mul_r (by omega) | exact mul_l (by omega))
local macro_rules | `(tactic| walk_at "ev") => `(tactic| simp (disch := walk_at "ds") only [bind_ok, bind_ex, bind_no, oc_k, oc_x, oc_n, of_some, of_none, okV_ok, okV_ex, okV_no, bOf_b, iOf_i, asL_l, asS_l, asS_s, lOf_l, var_ev, var_el, var_es, int_ev, bool_ev, non_ev, str_ev, av_f, av_t, op_ev, op_el, op_es, opN_ev, e_ev, e_el, e_es, neg_ev, bv_eq, iv_eq, andV_ev, orV_ev, notV_ev, ife_ev, ife_el, ife_es, chain_ev, inK_ev, setfld_ev, tup_ev, dev_eq, avD_nil, avD_cons, lst_ev, anil_ev, acons_ev, bi_ev, biN_ev, call_ev, call_el, call_es, callN_ev, meth_ev, meth_el, meth_es, methN_ev, make_ev, fld_ev, fld_el, fld_es, test_ev, B_ev, and_ev, or_ev, not_ev, truthL_ev, ifeT_ev, yes_ev, onone_ev, osome_ev, sl_ev, slS_ev, lend_ev, blank_ev, ilist_ev, irng1_ev, irng2_ev, avI1_i, avI2_i, ienum_ev, izip_ev, gname_ev, gnil_ev, gcons_ev, gtup_ev, glst_ev, lc_ev, nx_ev, brk_ev, cnt_ev, seq_ev, set_ev, setN_ev, asg_ev, par_ev, aug_ev, seti_ev, app_ev, ite_ev, ret_ev, retN_ev, retO_ev, retV_ev, drop_ev, frz_ev, for_ev, lp_nil, raise_ev, try_ev, add_ka, add_kb, add_f, sub_ka, sub_kb, sub_f, band_ka, band_kb, band_f, lt_ka, lt_kb, lt_f, le_ka, le_kb, le_f, gt_ka, gt_kb, gt_f, ge_ka, ge_kb, ge_f, mul_ka, mul_kb, div_ka, div_kb, divU_ka, divU_kb, mod_ka, mod_kb, pow_ka, pow_kb, shl_ka, shl_kb, shr_ka, shr_kb, eq_ka, eq_kb, ne_ka, ne_kb, eqD_ka, eqD_kb, neD_ka, neD_kb, isN_ka, isN_kb, notN_ka, notN_kb, isB_ka, isB_kb, notB_ka, notB_kb, ixS_ka, ixS_kb, ixT_ka, ixT_kb, neL_ka, neL_kb, ixL_ka, ixL_kb, inL_ka, inL_kb, notInL_ka, notInL_kb, cat_ka, cat_kb, rep_ka, rep_kb, eq_i, eq_s, ne_i, ne_s, isB_f, notB_f, isN_f, notN_f, ixL_f, ixT_f, ixS_f, len_f, lenS_f, abs_f, min2_f, max2_f, int_f, intB_f, gcd_f, listN_f, runX_eq, res_rt, res_ro, res_nx, res_xc, at0, at1, at2, rng_if, lcL_nil, mul_f, div_f, divU_f, mod_f, pow_f, shl_f, shr_f, cat_f, lcm_f, repr_f, List.getElem?_cons_zero, List.getElem?_cons_succ, List.set_cons_zero, List.set_cons_succ, List.length_cons, List.length_nil, Nat.reduceAdd, Nat.reduceLT, Nat.reduceLeDiff, Nat.reduceEqDiff, if_true, if_false, Option.map_some, Option.map_none, Option.bind_some, Option.bind_none, reduceIte, decide_true, decide_false, R.start, avS, R.frz, at0, at1, at2, allXb, Sv.isX, List.all_cons, List.all_nil, Bool.and_true, Bool.true_and, Bool.and_false, Bool.false_and, List.flatten_cons, List.map_cons, List.map_nil, List.cons_append, List.nil_append, List.replicate_succ, List.replicate_zero, Bool.not_true, Bool.not_false, Nat.reduceMul, Nat.reduceSub, Nat.zero_add, and_self, and_true, true_and, and_false, false_and])
local macro_rules | `(tactic| walk_at "evh") => `(tactic| simp (disch := walk_at "ds") only [bind_ok, bind_ex, bind_no, oc_k, oc_x, oc_n, of_some, of_none, okV_ok, okV_ex, okV_no, bOf_b, iOf_i, asL_l, asS_l, asS_s, lOf_l, var_ev, var_el, var_es, int_ev, bool_ev, non_ev, str_ev, av_f, av_t, op_ev, op_el, op_es, opN_ev, e_ev, e_el, e_es, neg_ev, bv_eq, iv_eq, andV_ev, orV_ev, notV_ev, ife_ev, ife_el, ife_es, chain_ev, inK_ev, setfld_ev, tup_ev, dev_eq, avD_nil, avD_cons, lst_ev, anil_ev, acons_ev, bi_ev, biN_ev, call_ev, call_el, call_es, callN_ev, meth_ev, meth_el, meth_es, methN_ev, make_ev, fld_ev, fld_el, fld_es, test_ev, B_ev, and_ev, or_ev, not_ev, truthL_ev, ifeT_ev, yes_ev, onone_ev, osome_ev, sl_ev, slS_ev, lend_ev, blank_ev, ilist_ev, irng1_ev, irng2_ev, avI1_i, avI2_i, ienum_ev, izip_ev, gname_ev, gnil_ev, gcons_ev, gtup_ev, glst_ev, lc_ev, nx_ev, brk_ev, cnt_ev, seq_ev, set_ev, setN_ev, asg_ev, par_ev, aug_ev, seti_ev, app_ev, ite_ev, ret_ev, retN_ev, retO_ev, retV_ev, drop_ev, frz_ev, for_ev, lp_nil, raise_ev, try_ev, add_ka, add_kb, add_f, sub_ka, sub_kb, sub_f, band_ka, band_kb, band_f, lt_ka, lt_kb, lt_f, le_ka, le_kb, le_f, gt_ka, gt_kb, gt_f, ge_ka, ge_kb, ge_f, mul_ka, mul_kb, div_ka, div_kb, divU_ka, divU_kb, mod_ka, mod_kb, pow_ka, pow_kb, shl_ka, shl_kb, shr_ka, shr_kb, eq_ka, eq_kb, ne_ka, ne_kb, eqD_ka, eqD_kb, neD_ka, neD_kb, isN_ka, isN_kb, notN_ka, notN_kb, isB_ka, isB_kb, notB_ka, notB_kb, ixS_ka, ixS_kb, ixT_ka, ixT_kb, neL_ka, neL_kb, ixL_ka, ixL_kb, inL_ka, inL_kb, notInL_ka, notInL_kb, cat_ka, cat_kb, rep_ka, rep_kb, eq_i, eq_s, ne_i, ne_s, isB_f, notB_f, isN_f, notN_f, ixL_f, ixT_f, ixS_f, len_f, lenS_f, abs_f, min2_f, max2_f, int_f, intB_f, gcd_f, listN_f, runX_eq, res_rt, res_ro, res_nx, res_xc, at0, at1, at2, rng_if, lcL_nil, mul_f, div_f, divU_f, mod_f, pow_f, shl_f, shr_f, cat_f, lcm_f, repr_f, List.getElem?_cons_zero, List.getElem?_cons_succ, List.set_cons_zero, List.set_cons_succ, List.length_cons, List.length_nil, Nat.reduceAdd, Nat.reduceLT, Nat.reduceLeDiff, Nat.reduceEqDiff, if_true, if_false, Option.map_some, Option.map_none, Option.bind_some, Option.bind_none, reduceIte, decide_true, decide_false, R.start, avS, R.frz, at0, at1, at2, allXb, Sv.isX, List.all_cons, List.all_nil, Bool.and_true, Bool.true_and, Bool.and_false, Bool.false_and, List.flatten_cons, List.map_cons, List.map_nil, List.cons_append, List.nil_append, List.replicate_succ, List.replicate_zero, Bool.not_true, Bool.not_false, Nat.reduceMul, Nat.reduceSub, Nat.zero_add, and_self, and_true, true_and, and_false, false_and, *])
variable {K : PySem.W.Frag} {mg : Str → Option Value} (T : Tx K mg)
inductive Rel where | least | most | equal
def Rel.s : Rel → Str
  | .least => PySem.Str.ofString "least"
  | .most => PySem.Str.ofString "most"
  | .equal => PySem.Str.ofString "equal"
def Rel.isL : Rel → Bool | .least => true | _ => false
def Rel.isM : Rel → Bool | .most => true | _ => false
def Rel.isE : Rel → Bool | .equal => true | _ => false
theorem relL (r : Rel) : (O2.eq : O2 K).f (.v (.d (.str r.s))) (.v (.d (.str (PySem.Str.ofString "least")))) = some (.d (.bool r.isL)) := by cases r <;> rfl
theorem relM (r : Rel) : (O2.eq : O2 K).f (.v (.d (.str r.s))) (.v (.d (.str (PySem.Str.ofString "most")))) = some (.d (.bool r.isM)) := by cases r <;> rfl
theorem relE (r : Rel) : (O2.eq : O2 K).f (.v (.d (.str r.s))) (.v (.d (.str (PySem.Str.ofString "equal")))) = some (.d (.bool r.isE)) := by cases r <;> rfl
structure Rw where
  ws : List Int
  r : Rel
  b : Int
def enR (r : Rw) : PyData := .tuple [.list (r.ws.map .int), .str r.r.s, .int r.b]
structure RowsP (rs : List Rw) (n : Nat) : Prop where
  len : ∀ r ∈ rs, r.ws.length = n
  bd : ∀ r ∈ rs, ∀ a ∈ r.ws, a.natAbs < 2 ^ 4
  bb : ∀ r ∈ rs, r.b.natAbs < 2 ^ 4
  cnt : rs.length ≤ 6
theorem lkp {a b : PyData} : List.lookup (PySem.Str.ofString "_prices") [(PySem.Str.ofString "_prices", a), (PySem.Str.ofString "_rows", b)] = some a := rfl
theorem lkr {a b : PyData} : List.lookup (PySem.Str.ofString "_rows") [(PySem.Str.ofString "_prices", a), (PySem.Str.ofString "_rows", b)] = some b := rfl
def pgv (ps : List Int) (rs : List Rw) : Vl := .i T.c_Program [("_prices", .list (ps.map .int)), ("_rows", .list (rs.map enR))]
def pgm (ps : List Int) (rs : List Rw) : Av := .v (pgv T ps rs)
theorem inst_rows (ps : List Int) (rs : List Rw) : instOf T.c_Program (PySem.Str.ofString "rows") (pgv T ps rs) = .ok [(PySem.Str.ofString "_prices", .list (ps.map .int)), (PySem.Str.ofString "_rows", .list (rs.map enR))] := by unfold pgv instOf; exact if_pos ⟨rfl, rfl⟩
theorem inst_count (ps : List Int) (rs : List Rw) : instOf T.c_Program (PySem.Str.ofString "count") (pgv T ps rs) = .ok [(PySem.Str.ofString "_prices", .list (ps.map .int)), (PySem.Str.ofString "_rows", .list (rs.map enR))] := by unfold pgv instOf; exact if_pos ⟨rfl, rfl⟩
theorem f_init {ps : List Int} {rs : List Rw} {n : Nat} (hn : ps.length = n) (h : 1 ≤ n ∧ n ≤ 40) (R : RowsP rs n) : (fn_Program___init__ T).f [.v (.d (.list (ps.map .int))), .v (.d (.list (rs.map enR)))] = .ok [("_prices", .list (ps.map .int)), ("_rows", .list (rs.map enR))] := by
  rw [fnif_Program]
  unfold progF
  refine if_pos ⟨by rw [List.length_map]; omega, by rw [List.length_map]; have := R.cnt; omega, ?_⟩
  rw [List.all_eq_true]
  intro d hd
  obtain ⟨r, hr, rfl⟩ := List.mem_map.mp hd
  show (decide _ && decide _) = true
  rw [Bool.and_eq_true, decide_eq_true_eq, decide_eq_true_eq, List.length_map, List.length_map, R.len r hr, hn]
  refine ⟨rfl, ?_⟩
  cases r.r <;> simp [Rel.s]
theorem f_count {ps : List Int} {rs : List Rw} : (fn_Program_count T).f [pgm T ps rs] = .ok (.d (.int (ps.length : Nat))) := by
  rw [fnf_Program_count]
  have hf := lkp (a := .list (ps.map .int)) (b := .list (rs.map enR))
  unfold xs_Program_count pgm pgv
  walk_at "evh"
  rw [List.length_map]
theorem f_rows {ps : List Int} {rs : List Rw} (hl : rs.length ≤ 100000) : (fn_Program_rows T).f [pgm T ps rs] = .ok (.d (.list (rs.map enR))) := by
  have hc : lcL (K := K) (.tup (.cons (.name 1) (.cons (.name 2) (.cons (.name 3) .nil)))) .yes (.tup (.cons false (XN.bi BiN.list (.cons true (.var 1) .nil)).e (.cons false (.var 2) (.cons false (.var 3) .nil)))) [.v (.i T.c_Program [("_prices", .list (ps.map .int)), ("_rows", .list (rs.map enR))]), .x, .x, .x] (rs.map enR) = some (rs.map enR) := by
    refine lcL_map fun r _ => ?_
    rw [lcOne_eq]
    unfold enR
    clear hl
    walk_at "ev"
  have hl1 : (rs.map enR).length ≤ 100000 := by rw [List.length_map]; omega
  have hg : ((XG.tup (.cons (.name 1) (.cons (.name 2) (.cons (.name 3) .nil))) : XG K).T.all fun i => decide (i ∈ [1, 2, 3])) = true := rfl
  have hf := lkr (a := .list (ps.map .int)) (b := .list (rs.map enR))
  rw [fnf_Program_rows]
  refine runX_of ?_
  unfold xs_Program_rows pgm pgv
  clear hl
  walk_at "evh"
def dotF (as bs : List Int) : Int := (List.zipWith (fun a b => a * b) as bs).sum
theorem zipD_int : ∀ as bs : List Int, zipD (as.map .int) (bs.map .int) = (as.zip bs).map fun p => .tuple [.int p.1, .int p.2]
  | [], bs => by cases bs <;> rfl
  | a :: as, [] => rfl
  | a :: as, b :: bs => by
    show PyData.tuple [.int a, .int b] :: zipD (as.map .int) (bs.map .int) = _
    rw [zipD_int as bs]
    rfl
theorem f_dot {as bs : List Int} (hl : as.length ≤ 100000) (h : ∀ p ∈ as.zip bs, CMulU p.1 p.2) : (fn_dot T).f [.v (.d (.list (as.map .int))), .v (.d (.list (bs.map .int)))] = .ok (.d (.int (dotF as bs))) := by
  have hc : lcL (K := K) (.tup (.cons (.name 2) (.cons (.name 3) .nil))) .yes (.op O2.mul (.var 2) (.var 3)) [.v (.d (.list (as.map .int))), .v (.d (.list (bs.map .int))), .x, .x] ((as.zip bs).map fun p => .tuple [.int p.1, .int p.2]) = some (((as.zip bs).map fun p => p.1 * p.2).map .int) := by
    rw [List.map_map]
    refine lcL_map fun p hp => ?_
    have hm := h p hp
    rw [lcOne_eq]
    clear h hl hp
    walk_at "ev"
    rfl
  have hl1 : ((as.zip bs).map fun p => PyData.tuple [.int p.1, .int p.2]).length ≤ 100000 := by rw [List.length_map, List.length_zip]; omega
  have hg : ((XG.tup (.cons (.name 2) (.cons (.name 3) .nil)) : XG K).T.all fun i => decide (i ∈ [2, 3])) = true := rfl
  have e : (((as.zip bs).map fun p => p.1 * p.2)).sum = dotF as bs := by
    unfold dotF
    congr 1
    exact List.map_zip_eq_zipWith
  have hz := zipD_int as bs
  have hs := sum_f (K := K) (ns := (as.zip bs).map fun p => p.1 * p.2)
  rw [e] at hs
  rw [fnf_dot]
  refine runX_of ?_
  unfold xs_dot
  clear h hl e
  walk_at "evh"
theorem zipD_map {α β : Type} (f : α → PyData) (g : β → PyData) : ∀ (as : List α) (bs : List β), zipD (as.map f) (bs.map g) = (as.zip bs).map fun p => .tuple [f p.1, g p.2]
  | [], bs => by cases bs <;> rfl
  | a :: as, [] => rfl
  | a :: as, b :: bs => by
    show PyData.tuple [f a, g b] :: zipD (as.map f) (bs.map g) = _
    rw [zipD_map f g as bs]
    rfl
def fitB (r : Rel) (x : Int × Int) : Bool := match r with
  | .least => decide (0 ≤ x.1)
  | .most => decide (x.1 ≤ 0)
  | .equal => true
def rv (r : Rel) : Av := .v (.d (.str r.s))
theorem f_is_fit (r : Rel) (x : Int × Int) : (fn_is_fit T).f [rv r, fv x] = .ok (.d (.bool (fitB r x))) := by
  have h1 := relL (K := K) r
  have h2 := relE (K := K) r
  rw [fnf_is_fit]
  refine runX_of ?_
  unfold xs_is_fit rv
  cases r
  · have e : Rel.isL .least = true := rfl
    rw [e] at h1
    show _ = Oc.rt (.d (.bool (decide (0 ≤ x.1))))
    clear h2 e
    walk_at "evh"
  · have e : Rel.isL .most = false := rfl
    have e2 : Rel.isE .most = false := rfl
    rw [e] at h1
    rw [e2] at h2
    show _ = Oc.rt (.d (.bool (decide (x.1 ≤ 0))))
    clear e e2
    walk_at "evh"
  · have e : Rel.isL .equal = false := rfl
    have e2 : Rel.isE .equal = true := rfl
    rw [e] at h1
    rw [e2] at h2
    show _ = Oc.rt (.d (.bool true))
    clear e e2
    walk_at "evh"
def fitsB (rs : List Rw) (ws : List (Int × Int)) : Bool := decide (ws.length = rs.length) && (rs.zip ws).all fun p => fitB p.1.r p.2
theorem f_are_fit {ps : List Int} {rs : List Rw} {ws : List (Int × Int)} (hl : rs.length ≤ 100000) : (fn_are_fit T).f [pgm T ps rs, fvs ws] = .ok (.d (.bool (fitsB rs ws))) := by
  have h1 := f_rows T (ps := ps) hl
  have m1 := fnm_Program_rows T
  have hc : lcL (K := K) (.tup (.cons (.name 3) (.cons (.name 4) .nil))) .yes (.call (fn_is_fit T) (fno_is_fit T) (.cons false (.op O2.ixT (.var 3) (.int 1)) (.cons false (.var 4) .nil))) [.v (pgv T ps rs), .v (.d (.list (ws.map fd))), .v (.d (.list (rs.map enR))), .x, .x] ((rs.zip ws).map fun p => .tuple [enR p.1, fd p.2]) = some (((rs.zip ws).map fun p => fitB p.1.r p.2).map .bool) := by
    rw [List.map_map]
    refine lcL_map fun p hp => ?_
    have hf := f_is_fit T p.1.r p.2
    have hm := fnm_is_fit T
    unfold rv at hf
    rw [lcOne_eq]
    unfold enR
    clear hl hp h1 m1
    walk_at "evh"
    rfl
  have hl1 : ((rs.zip ws).map fun p => PyData.tuple [enR p.1, fd p.2]).length ≤ 100000 := by rw [List.length_map, List.length_zip]; omega
  have hg : ((XG.tup (.cons (.name 3) (.cons (.name 4) .nil)) : XG K).T.all fun i => decide (i ∈ [3, 4])) = true := rfl
  have hz := zipD_map enR fd rs ws
  have q1 : ((rs.map enR).length : Int) = (rs.length : Nat) := by rw [List.length_map]
  have q2 : ((ws.map fd).length : Int) = (ws.length : Nat) := by rw [List.length_map]
  rw [fnf_are_fit]
  refine runX_of ?_
  unfold xs_are_fit
  unfold fvs fitsB
  unfold pgm at *
  refine run_nx (st1 := [.v (pgv T ps rs), .v (.d (.list (ws.map fd))), .v (.d (.list (rs.map enR))), .x, .x]) (by
    clear hc hl1 hg hz q1 q2
    have hi := inst_rows T ps rs
    unfold pgv at *
    walk_at "evh") ?_
  clear h1 m1 hl
  by_cases h : ws.length = rs.length
  · have d1 : decide (((ws.length : Nat) : Int) = ((rs.length : Nat) : Int)) = true := decide_eq_true (by omega)
    have d2 : decide (ws.length = rs.length) = true := decide_eq_true h
    have ha := all_f (K := K) (ns := (rs.zip ws).map fun p => fitB p.1.r p.2)
    rw [List.all_map] at ha
    replace ha : (Bi.all : Bi K).f [.l (((rs.zip ws).map fun p => fitB p.1.r p.2).map .bool)] = some (.d (.bool ((rs.zip ws).all fun p => fitB p.1.r p.2))) := ha
    refine run_nx (ite_f ?_ rfl) ?_
    · clear hc hl1 hg hz ha
      walk_at "evh"
    · clear h
      walk_at "evh"
  · have d1 : decide (((ws.length : Nat) : Int) = ((rs.length : Nat) : Int)) = false := decide_eq_false (by omega)
    have d2 : decide (ws.length = rs.length) = false := decide_eq_false h
    clear hc hl1 hg hz h
    walk_at "evh"
end Q

set_option Elab.async false
set_option linter.all false
set_option maxRecDepth 100000
set_option maxHeartbeats 4000000
namespace Q
open PySem PySem.Spec PyProof.Rows L2 Z R QF
local macro_rules | `(tactic| walk_at "ds") => `(tactic| first | assumption | decide | omega | exact ⟨by decide, by decide⟩ | exact ⟨by omega, by omega⟩ | exact div_lit ⟨by omega, by omega⟩ | exact mul_r (by omega) | exact mul_l (by omega))
local macro_rules | `(tactic| walk_at "ev") => `(tactic| simp (disch := walk_at "ds") only [bind_ok, bind_ex, bind_no, oc_k, oc_x, oc_n, of_some, of_none, okV_ok, okV_ex, okV_no, bOf_b, iOf_i, asL_l, asS_l, asS_s, lOf_l, var_ev, var_el, var_es, int_ev, bool_ev, non_ev, str_ev, av_f, av_t, op_ev, op_el, op_es, opN_ev, e_ev, e_el, e_es, neg_ev, bv_eq, iv_eq, andV_ev, orV_ev, notV_ev, ife_ev, ife_el, ife_es, chain_ev, inK_ev, setfld_ev, tup_ev, dev_eq, avD_nil, avD_cons, lst_ev, anil_ev, acons_ev, bi_ev, biN_ev, call_ev, call_el, call_es, callN_ev, meth_ev, meth_el, meth_es, methN_ev, make_ev, fld_ev, fld_el, fld_es, test_ev, B_ev, and_ev, or_ev, not_ev, truthL_ev, ifeT_ev, yes_ev, onone_ev, osome_ev, sl_ev, slS_ev, lend_ev, blank_ev, ilist_ev, irng1_ev, irng2_ev, avI1_i, avI2_i, ienum_ev, izip_ev, gname_ev, gnil_ev, gcons_ev, gtup_ev, glst_ev, lc_ev, nx_ev, brk_ev, cnt_ev, seq_ev, set_ev, setN_ev, asg_ev, par_ev, aug_ev, seti_ev, app_ev, ite_ev, ret_ev, retN_ev, retO_ev, retV_ev, drop_ev, frz_ev, for_ev, lp_nil, raise_ev, try_ev, add_ka, add_kb, add_f, sub_ka, sub_kb, sub_f, band_ka, band_kb, band_f, lt_ka, lt_kb, lt_f, le_ka, le_kb, le_f, gt_ka, gt_kb, gt_f, ge_ka, ge_kb, ge_f, mul_ka, mul_kb, div_ka, div_kb, divU_ka, divU_kb, mod_ka, mod_kb, pow_ka, pow_kb, shl_ka, shl_kb, shr_ka, shr_kb, eq_ka, eq_kb, ne_ka, ne_kb, eqD_ka, eqD_kb, neD_ka, neD_kb, isN_ka, isN_kb, notN_ka, notN_kb, isB_ka, isB_kb, notB_ka, notB_kb, ixS_ka, ixS_kb, ixT_ka, ixT_kb, neL_ka, neL_kb, ixL_ka, ixL_kb, inL_ka, inL_kb, notInL_ka, notInL_kb, cat_ka, cat_kb, rep_ka, rep_kb, eq_i, eq_s, ne_i, ne_s, isB_f, notB_f, isN_f, notN_f, ixL_f, ixT_f, ixS_f, len_f, lenS_f, abs_f, min2_f, max2_f, int_f, intB_f, gcd_f, listN_f, runX_eq, res_rt, res_ro, res_nx, res_xc, at0, at1, at2, rng_if, lcL_nil, mul_f, div_f, divU_f, mod_f, pow_f, shl_f, shr_f, cat_f, lcm_f, repr_f, List.getElem?_cons_zero, List.getElem?_cons_succ, List.set_cons_zero, List.set_cons_succ, List.length_cons, List.length_nil, Nat.reduceAdd, Nat.reduceLT, Nat.reduceLeDiff, Nat.reduceEqDiff, if_true, if_false, Option.map_some, Option.map_none, Option.bind_some, Option.bind_none, reduceIte, decide_true, decide_false, R.start, avS, R.frz, at0, at1, at2, allXb, Sv.isX, List.all_cons, List.all_nil, Bool.and_true, Bool.true_and, Bool.and_false, Bool.false_and, List.flatten_cons, List.map_cons, List.map_nil, List.cons_append, List.nil_append, List.replicate_succ, List.replicate_zero, Bool.not_true, Bool.not_false, Nat.reduceMul, Nat.reduceSub, Nat.zero_add, and_self, and_true, true_and, and_false, false_and])
local macro_rules | `(tactic| walk_at "evh") => `(tactic| simp (disch := walk_at "ds") only [bind_ok, bind_ex, bind_no, oc_k, oc_x, oc_n, of_some, of_none, okV_ok, okV_ex, okV_no, bOf_b, iOf_i, asL_l, asS_l, asS_s, lOf_l, var_ev, var_el, var_es, int_ev, bool_ev, non_ev, str_ev, av_f, av_t, op_ev, op_el, op_es, opN_ev, e_ev, e_el, e_es, neg_ev, bv_eq, iv_eq, andV_ev, orV_ev, notV_ev, ife_ev, ife_el, ife_es, chain_ev, inK_ev, setfld_ev, tup_ev, dev_eq, avD_nil, avD_cons, lst_ev, anil_ev, acons_ev, bi_ev, biN_ev, call_ev, call_el, call_es, callN_ev, meth_ev, meth_el, meth_es, methN_ev, make_ev, fld_ev, fld_el, fld_es, test_ev, B_ev, and_ev, or_ev, not_ev, truthL_ev, ifeT_ev, yes_ev, onone_ev, osome_ev, sl_ev, slS_ev, lend_ev, blank_ev, ilist_ev, irng1_ev, irng2_ev, avI1_i, avI2_i, ienum_ev, izip_ev, gname_ev, gnil_ev, gcons_ev, gtup_ev, glst_ev, lc_ev, nx_ev, brk_ev, cnt_ev, seq_ev, set_ev, setN_ev, asg_ev, par_ev, aug_ev, seti_ev, app_ev, ite_ev, ret_ev, retN_ev, retO_ev, retV_ev, drop_ev, frz_ev, for_ev, lp_nil, raise_ev, try_ev, add_ka, add_kb, add_f, sub_ka, sub_kb, sub_f, band_ka, band_kb, band_f, lt_ka, lt_kb, lt_f, le_ka, le_kb, le_f, gt_ka, gt_kb, gt_f, ge_ka, ge_kb, ge_f, mul_ka, mul_kb, div_ka, div_kb, divU_ka, divU_kb, mod_ka, mod_kb, pow_ka, pow_kb, shl_ka, shl_kb, shr_ka, shr_kb, eq_ka, eq_kb, ne_ka, ne_kb, eqD_ka, eqD_kb, neD_ka, neD_kb, isN_ka, isN_kb, notN_ka, notN_kb, isB_ka, isB_kb, notB_ka, notB_kb, ixS_ka, ixS_kb, ixT_ka, ixT_kb, neL_ka, neL_kb, ixL_ka, ixL_kb, inL_ka, inL_kb, notInL_ka, notInL_kb, cat_ka, cat_kb, rep_ka, rep_kb, eq_i, eq_s, ne_i, ne_s, isB_f, notB_f, isN_f, notN_f, ixL_f, ixT_f, ixS_f, len_f, lenS_f, abs_f, min2_f, max2_f, int_f, intB_f, gcd_f, listN_f, runX_eq, res_rt, res_ro, res_nx, res_xc, at0, at1, at2, rng_if, lcL_nil, mul_f, div_f, divU_f, mod_f, pow_f, shl_f, shr_f, cat_f, lcm_f, repr_f, List.getElem?_cons_zero, List.getElem?_cons_succ, List.set_cons_zero, List.set_cons_succ, List.length_cons, List.length_nil, Nat.reduceAdd, Nat.reduceLT, Nat.reduceLeDiff, Nat.reduceEqDiff, if_true, if_false, Option.map_some, Option.map_none, Option.bind_some, Option.bind_none, reduceIte, decide_true, decide_false, R.start, avS, R.frz, at0, at1, at2, allXb, Sv.isX, List.all_cons, List.all_nil, Bool.and_true, Bool.true_and, Bool.and_false, Bool.false_and, List.flatten_cons, List.map_cons, List.map_nil, List.cons_append, List.nil_append, List.replicate_succ, List.replicate_zero, Bool.not_true, Bool.not_false, Nat.reduceMul, Nat.reduceSub, Nat.zero_add, and_self, and_true, true_and, and_false, false_and, *])
variable {K : PySem.W.Frag} {mg : Str → Option Value} (T : Tx K mg)
theorem f_scaled_for {rs : List Rw} {ws : List (Int × Int)} {n b : Nat} (F : Fs ws n b) (h : ws.length = rs.length) : (fn_scaled_for T).f [.v (.d (.list (rs.map enR))), fvs ws] = .ok (.d (.tuple [.list ((numF ws (lcmF ws)).map .int), .int (lcmF ws)])) := by
  have h1 := f_scaled T F
  have m1 := fnm_scaled T
  have q1 : ((rs.map enR).length : Int) = (rs.length : Nat) := by rw [List.length_map]
  have q2 : ((ws.map fd).length : Int) = (ws.length : Nat) := by rw [List.length_map]
  have d1 : decide (((ws.length : Nat) : Int) = ((rs.length : Nat) : Int)) = true := decide_eq_true (by omega)
  rw [fnf_scaled_for]
  refine runX_of ?_
  unfold xs_scaled_for
  unfold fvs at *
  clear F h
  walk_at "evh"
theorem f_scaled_for_x {rs : List Rw} {ws : List (Int × Int)} (h : ws.length ≠ rs.length) : (fn_scaled_for T).f [.v (.d (.list (rs.map enR))), fvs ws] = .ex T.c_WrongSize 0 := by
  have q1 : ((rs.map enR).length : Int) = (rs.length : Nat) := by rw [List.length_map]
  have q2 : ((ws.map fd).length : Int) = (ws.length : Nat) := by rw [List.length_map]
  have d1 : decide (((ws.length : Nat) : Int) = ((rs.length : Nat) : Int)) = false := decide_eq_false (by omega)
  rw [fnf_scaled_for]
  show Oc.res false _ = _
  unfold xs_scaled_for fvs
  clear h
  walk_at "evh"
theorem numF_bd {ws : List (Int × Int)} {n b : Nat} (F : Fs ws n b) : ∀ v ∈ numF ws (lcmF ws), v.natAbs < 2 ^ (n + (1 + b * ws.length)) := by
  obtain ⟨l0, -, l2⟩ := lcm_fold ws 1 (by decide) fun f hf => (F.is f hf).pos
  have lb := lcm_bd (b := b) ws 1 1 (by decide) F.den
  intro v hv
  obtain ⟨f, hf, rfl⟩ := List.mem_map.mp hv
  exact mulB (F.num f hf) (Nat.lt_of_le_of_lt (ediv_abs (F.is f hf).pos (l2 f hf)) lb)
theorem dot_c {as : List Int} {ws : List (Int × Int)} {n b : Nat} (F : Fs ws n b) (ha : ∀ a ∈ as, a.natAbs < 2 ^ 4) : ∀ p ∈ as.zip (numF ws (lcmF ws)), CMulU p.1 p.2 := by
  intro p hp
  have h := List.of_mem_zip (show (p.1, p.2) ∈ _ from hp)
  have n0 := F.n0
  have hlen := F.len
  have : b * ws.length ≤ b * (ws.length + 1) := Nat.mul_le_mul_left _ (by omega)
  have : (n + b + 2) * 2 ≤ (n + b + 2) * (ws.length + 2) := Nat.mul_le_mul_left _ (by omega)
  exact mulU (ha _ h.1) (numF_bd F _ h.2) (by omega)
def col (rs : List Rw) (j : Nat) : List Int := rs.map fun r => r.ws.getD j 0
def loadF (rs : List Rw) (ws : List (Int × Int)) (j : Nat) : Int × Int := low (dotF (col rs j) (numF ws (lcmF ws))) (lcmF ws)
def gainF (rs : List Rw) (ws : List (Int × Int)) : Int × Int := low (dotF (rs.map fun r => r.b) (numF ws (lcmF ws))) (lcmF ws)
theorem col_at {rs : List Rw} {n j : Nat} (R : RowsP rs n) (hj : j < n) : ∀ r ∈ rs, atI (r.ws.map PyData.int) (0 + (j : Int)) = some (.int (r.ws.getD j 0)) := by
  intro r hr
  have h1 : j < r.ws.length := by rw [R.len r hr]; exact hj
  have e : ((0 : Int) + (j : Int)).toNat = j := by omega
  refine atI_in (by omega) ?_
  rw [e, List.getD_eq_getElem?_getD, List.getElem?_eq_getElem h1]
  rfl
theorem col_bd {rs : List Rw} {n j : Nat} (R : RowsP rs n) (hj : j < n) : ∀ a ∈ col rs j, a.natAbs < 2 ^ 4 := by
  intro a ha
  obtain ⟨r, hr, rfl⟩ := List.mem_map.mp ha
  have h1 : j < r.ws.length := by rw [R.len r hr]; exact hj
  rw [List.getD_eq_getElem?_getD, List.getElem?_eq_getElem h1]
  exact R.bd r hr _ (List.getElem_mem h1)
theorem b_bd {rs : List Rw} {n : Nat} (R : RowsP rs n) : ∀ a ∈ rs.map (fun r => r.b), a.natAbs < 2 ^ 4 := by
  intro a ha
  obtain ⟨r, hr, rfl⟩ := List.mem_map.mp ha
  exact R.bb r hr
theorem frac_S {ws : List (Int × Int)} {n b : Nat} (F : Fs ws n b) (p : Int) : (fn_fraction T).f [iv p, iv (lcmF ws)] = .ok (.d (fd (low p (lcmF ws)))) := by
  obtain ⟨l0, -, -⟩ := lcm_fold ws 1 (by decide) fun f hf => (F.is f hf).pos
  have lb := lcm_bd (b := b) ws 1 1 (by decide) F.den
  have hlen := F.len
  have n0 := F.n0
  have : b * ws.length ≤ b * (ws.length + 1) := Nat.mul_le_mul_left _ (by omega)
  exact f_fraction T (k := 1 + b * ws.length) (by have : 0 < lcmF ws := l0; omega) (by omega) (by omega) lb
theorem f_gain {ps : List Int} {rs : List Rw} {ws : List (Int × Int)} {m n b : Nat} (R : RowsP rs m) (F : Fs ws n b) (h : ws.length = rs.length) : (fn_gain T).f [pgm T ps rs, fvs ws] = .ok (.d (fd (gainF rs ws))) := by
  have hl : rs.length ≤ 100000 := by have := R.cnt; omega
  have h1 := f_rows T (ps := ps) hl
  have m1 := fnm_Program_rows T
  have h2 := f_scaled_for T F h
  have m2 := fnm_scaled_for T
  have h3 := f_dot T (as := rs.map fun r => r.b) (bs := numF ws (lcmF ws)) (by rw [List.length_map]; exact hl) (dot_c F (b_bd R))
  have m3 := fnm_dot T
  have h4 := frac_S T F (dotF (rs.map fun r => r.b) (numF ws (lcmF ws)))
  have m4 := fnm_fraction T
  have hi := inst_rows T ps rs
  have hl1 : (rs.map enR).length ≤ 100000 := by rw [List.length_map]; omega
  have hc : lcL (K := K) (.name 5) .yes (.op O2.ixT (.var 5) (.int 2)) [.v (pgv T ps rs), .v (.d (.list (ws.map fd))), .v (.d (.list (rs.map enR))), .v (.d (.list ((numF ws (lcmF ws)).map .int))), .v (.d (.int (lcmF ws))), .x] (rs.map enR) = some ((rs.map fun r => r.b).map .int) := by
    rw [List.map_map]
    refine lcL_map fun r _ => ?_
    rw [lcOne_eq]
    unfold enR
    clear h1 h2 h3 h4 hi hl hl1
    walk_at "ev"
    rfl
  have hg : ((XG.name 5 : XG K).T.all fun i => decide (i ∈ [5])) = true := rfl
  rw [fnf_gain]
  refine runX_of ?_
  unfold xs_gain gainF
  unfold fvs pgm pgv at *
  clear R F h hl
  refine run_nx (st1 := [.v (.i T.c_Program [("_prices", .list (ps.map .int)), ("_rows", .list (rs.map enR))]), .v (.d (.list (ws.map fd))), .v (.d (.list (rs.map enR))), .x, .x, .x]) (by
    clear h2 h3 h4 hl1 hc hg
    walk_at "evh") (run_nx (st1 := [.v (.i T.c_Program [("_prices", .list (ps.map .int)), ("_rows", .list (rs.map enR))]), .v (.d (.list (ws.map fd))), .v (.d (.list (rs.map enR))), .v (.d (.list ((numF ws (lcmF ws)).map .int))), .v (.d (.int (lcmF ws))), .x]) ?_ ?_)
  · clear h1 h3 h4 hl1 hc hg hi
    walk_at "evh"
  · clear h1 h2 hi
    walk_at "evh"
theorem f_loads {ps : List Int} {rs : List Rw} {ws : List (Int × Int)} {m n b : Nat} (hp : ps.length = m) (hm : m ≤ 40) (R : RowsP rs m) (F : Fs ws n b) (h : ws.length = rs.length) : (fn_loads T).f [pgm T ps rs, fvs ws] = .ok (.d (.list (((List.range m).map (loadF rs ws)).map fd))) := by
  have hl : rs.length ≤ 100000 := by have := R.cnt; omega
  have h1 := f_rows T (ps := ps) hl
  have m1 := fnm_Program_rows T
  have h2 := f_scaled_for T F h
  have m2 := fnm_scaled_for T
  have h5 := f_count T (ps := ps) (rs := rs)
  rw [hp] at h5
  have m5 := fnm_Program_count T
  have hi := inst_rows T ps rs
  have hi2 := inst_count T ps rs
  have hl1 : (rs.map enR).length ≤ 100000 := by rw [List.length_map]; omega
  have hc : lcL (K := K) (.name 5) .yes (.call (fn_fraction T) (fno_fraction T) (.cons false (.call (fn_dot T) (fno_dot T) (.cons false (XN.lc (.list (.var 2)) (.name 6) .yes (.op O2.ixL (.op O2.ixT (.var 6) (.int 0)) (.var 5)) [6]).e (.cons false (.var 3) .nil))) (.cons false (.var 4) .nil))) [.v (pgv T ps rs), .v (.d (.list (ws.map fd))), .v (.d (.list (rs.map enR))), .v (.d (.list ((numF ws (lcmF ws)).map .int))), .v (.d (.int (lcmF ws))), .x, .x] (irange 0 m) = some (((List.range m).map (loadF rs ws)).map fd) := by
    rw [List.map_map]
    refine lcL_map (en := fun k : Nat => PyData.int (0 + (k : Int))) (xs := List.range m) fun j hj => ?_
    have hj : j < m := List.mem_range.mp hj
    have h3 := f_dot T (as := col rs j) (bs := numF ws (lcmF ws)) (by unfold col; rw [List.length_map]; exact hl) (dot_c F (col_bd R hj))
    have m3 := fnm_dot T
    have h4 := frac_S T F (dotF (col rs j) (numF ws (lcmF ws)))
    have m4 := fnm_fraction T
    have hca := col_at R hj
    obtain ⟨j', hj'⟩ : ∃ j', j' = 0 + (j : Int) := ⟨_, rfl⟩
    rw [← hj'] at hca ⊢
    have hc2 : lcL (K := K) (.name 6) .yes (.op O2.ixL (.op O2.ixT (.var 6) (.int 0)) (.var 5)) [.v (pgv T ps rs), .v (.d (.list (ws.map fd))), .v (.d (.list (rs.map enR))), .v (.d (.list ((numF ws (lcmF ws)).map .int))), .v (.d (.int (lcmF ws))), .v (.d (.int j')), .x] (rs.map enR) = some ((col rs j).map .int) := by
      unfold col
      rw [List.map_map]
      refine lcL_map fun r hr => ?_
      have ha := hca r hr
      rw [lcOne_eq]
      unfold enR
      clear h1 h2 h3 h4 hi hl hl1 h5 hi2 hr hca hj' hj R F h
      walk_at "evh"
      rfl
    have hg : ((XG.name 6 : XG K).T.all fun i => decide (i ∈ [6])) = true := rfl
    rw [lcOne_eq]
    clear h1 h2 hi hl h5 hi2 hca hj' hj R F h
    unfold pgv at *
    walk_at "evh"
    rfl
  have hg : ((XG.name 5 : XG K).T.all fun i => decide (i ∈ [5])) = true := rfl
  have hr : ((m : Nat) : Int).natAbs < 4611686018427387904 := by omega
  have hr2 : (irange 0 m).length ≤ 100000 := by rw [irange_len]; omega
  have ht : ((m : Nat) : Int).toNat = m := rfl
  rw [fnf_loads]
  show Oc.res true _ = _
  unfold xs_loads
  unfold fvs pgm pgv at *
  clear R F h hl hp hm
  rw [run_nx (st1 := [.v (.i T.c_Program [("_prices", .list (ps.map .int)), ("_rows", .list (rs.map enR))]), .v (.d (.list (ws.map fd))), .v (.d (.list (rs.map enR))), .x, .x, .x, .x]) (by
    clear h2 hl1 hc hg h5 hi2
    walk_at "evh") (run_nx (st1 := [.v (.i T.c_Program [("_prices", .list (ps.map .int)), ("_rows", .list (rs.map enR))]), .v (.d (.list (ws.map fd))), .v (.d (.list (rs.map enR))), .v (.d (.list ((numF ws (lcmF ws)).map .int))), .v (.d (.int (lcmF ws))), .x, .x]) (by
    clear h1 hl1 hc hg hi h5 hi2
    walk_at "evh") rfl)]
  clear h1 h2 hi
  walk_at "evh"
theorem f_loads_x {ps : List Int} {rs : List Rw} {ws : List (Int × Int)} (hl : rs.length ≤ 100000) (h : ws.length ≠ rs.length) : (fn_loads T).f [pgm T ps rs, fvs ws] = .ex T.c_WrongSize 0 := by
  have h1 := f_rows T (ps := ps) hl
  have m1 := fnm_Program_rows T
  have h2 := f_scaled_for_x T h
  have m2 := fnm_scaled_for T
  have hi := inst_rows T ps rs
  rw [fnf_loads]
  show Oc.res true _ = _
  unfold xs_loads
  unfold fvs pgm pgv at *
  clear h hl
  walk_at "evh"
theorem f_gain_x {ps : List Int} {rs : List Rw} {ws : List (Int × Int)} (hl : rs.length ≤ 100000) (h : ws.length ≠ rs.length) : (fn_gain T).f [pgm T ps rs, fvs ws] = .ex T.c_WrongSize 0 := by
  have h1 := f_rows T (ps := ps) hl
  have m1 := fnm_Program_rows T
  have h2 := f_scaled_for_x T h
  have m2 := fnm_scaled_for T
  have hi := inst_rows T ps rs
  rw [fnf_gain]
  show Oc.res false _ = _
  unfold xs_gain
  unfold fvs pgm pgv at *
  clear h hl
  walk_at "evh"
end Q

set_option Elab.async false
set_option linter.all false
set_option maxRecDepth 100000
set_option maxHeartbeats 4000000
namespace Q
open PySem PySem.Spec PyProof.Rows L2 Z R QF
local macro_rules | `(tactic| walk_at "ds") => `(tactic| first | assumption | decide | omega | exact ⟨by decide, by decide⟩ | exact ⟨by omega, by omega⟩ | exact div_lit ⟨by omega, by omega⟩ | exact mul_r (by omega) | exact mul_l (by omega))
local macro_rules | `(tactic| walk_at "ev") => `(tactic| simp (disch := walk_at "ds") only [bind_ok, bind_ex, bind_no, oc_k, oc_x, oc_n, of_some, of_none, okV_ok, okV_ex, okV_no, bOf_b, iOf_i, asL_l, asS_l, asS_s, lOf_l, var_ev, var_el, var_es, int_ev, bool_ev, non_ev, str_ev, av_f, av_t, op_ev, op_el, op_es, opN_ev, e_ev, e_el, e_es, neg_ev, bv_eq, iv_eq, andV_ev, orV_ev, notV_ev, ife_ev, ife_el, ife_es, chain_ev, inK_ev, setfld_ev, tup_ev, dev_eq, avD_nil, avD_cons, lst_ev, anil_ev, acons_ev, bi_ev, biN_ev, call_ev, call_el, call_es, callN_ev, meth_ev, meth_el, meth_es, methN_ev, make_ev, fld_ev, fld_el, fld_es, test_ev, B_ev, and_ev, or_ev, not_ev, truthL_ev, ifeT_ev, yes_ev, onone_ev, osome_ev, sl_ev, slS_ev, lend_ev, blank_ev, ilist_ev, irng1_ev, irng2_ev, avI1_i, avI2_i, ienum_ev, izip_ev, gname_ev, gnil_ev, gcons_ev, gtup_ev, glst_ev, lc_ev, nx_ev, brk_ev, cnt_ev, seq_ev, set_ev, setN_ev, asg_ev, par_ev, aug_ev, seti_ev, app_ev, ite_ev, ret_ev, retN_ev, retO_ev, retV_ev, drop_ev, frz_ev, for_ev, lp_nil, raise_ev, try_ev, add_ka, add_kb, add_f, sub_ka, sub_kb, sub_f, band_ka, band_kb, band_f, lt_ka, lt_kb, lt_f, le_ka, le_kb, le_f, gt_ka, gt_kb, gt_f, ge_ka, ge_kb, ge_f, mul_ka, mul_kb, div_ka, div_kb, divU_ka, divU_kb, mod_ka, mod_kb, pow_ka, pow_kb, shl_ka, shl_kb, shr_ka, shr_kb, eq_ka, eq_kb, ne_ka, ne_kb, eqD_ka, eqD_kb, neD_ka, neD_kb, isN_ka, isN_kb, notN_ka, notN_kb, isB_ka, isB_kb, notB_ka, notB_kb, ixS_ka, ixS_kb, ixT_ka, ixT_kb, neL_ka, neL_kb, ixL_ka, ixL_kb, inL_ka, inL_kb, notInL_ka, notInL_kb, cat_ka, cat_kb, rep_ka, rep_kb, eq_i, eq_s, ne_i, ne_s, isB_f, notB_f, isN_f, notN_f, ixL_f, ixT_f, ixS_f, len_f, lenS_f, abs_f, min2_f, max2_f, int_f, intB_f, gcd_f, listN_f, runX_eq, res_rt, res_ro, res_nx, res_xc, at0, at1, at2, rng_if, lcL_nil, mul_f, div_f, divU_f, mod_f, pow_f, shl_f, shr_f, cat_f, lcm_f, repr_f, List.getElem?_cons_zero, List.getElem?_cons_succ, List.set_cons_zero, List.set_cons_succ, List.length_cons, List.length_nil, Nat.reduceAdd, Nat.reduceLT, Nat.reduceLeDiff, Nat.reduceEqDiff, if_true, if_false, Option.map_some, Option.map_none, Option.bind_some, Option.bind_none, reduceIte, decide_true, decide_false, R.start, avS, R.frz, at0, at1, at2, allXb, Sv.isX, List.all_cons, List.all_nil, Bool.and_true, Bool.true_and, Bool.and_false, Bool.false_and, List.flatten_cons, List.map_cons, List.map_nil, List.cons_append, List.nil_append, List.replicate_succ, List.replicate_zero, Bool.not_true, Bool.not_false, Nat.reduceMul, Nat.reduceSub, Nat.zero_add, and_self, and_true, true_and, and_false, false_and])
local macro_rules | `(tactic| walk_at "evh") => `(tactic| simp (disch := walk_at "ds") only [bind_ok, bind_ex, bind_no, oc_k, oc_x, oc_n, of_some, of_none, okV_ok, okV_ex, okV_no, bOf_b, iOf_i, asL_l, asS_l, asS_s, lOf_l, var_ev, var_el, var_es, int_ev, bool_ev, non_ev, str_ev, av_f, av_t, op_ev, op_el, op_es, opN_ev, e_ev, e_el, e_es, neg_ev, bv_eq, iv_eq, andV_ev, orV_ev, notV_ev, ife_ev, ife_el, ife_es, chain_ev, inK_ev, setfld_ev, tup_ev, dev_eq, avD_nil, avD_cons, lst_ev, anil_ev, acons_ev, bi_ev, biN_ev, call_ev, call_el, call_es, callN_ev, meth_ev, meth_el, meth_es, methN_ev, make_ev, fld_ev, fld_el, fld_es, test_ev, B_ev, and_ev, or_ev, not_ev, truthL_ev, ifeT_ev, yes_ev, onone_ev, osome_ev, sl_ev, slS_ev, lend_ev, blank_ev, ilist_ev, irng1_ev, irng2_ev, avI1_i, avI2_i, ienum_ev, izip_ev, gname_ev, gnil_ev, gcons_ev, gtup_ev, glst_ev, lc_ev, nx_ev, brk_ev, cnt_ev, seq_ev, set_ev, setN_ev, asg_ev, par_ev, aug_ev, seti_ev, app_ev, ite_ev, ret_ev, retN_ev, retO_ev, retV_ev, drop_ev, frz_ev, for_ev, lp_nil, raise_ev, try_ev, add_ka, add_kb, add_f, sub_ka, sub_kb, sub_f, band_ka, band_kb, band_f, lt_ka, lt_kb, lt_f, le_ka, le_kb, le_f, gt_ka, gt_kb, gt_f, ge_ka, ge_kb, ge_f, mul_ka, mul_kb, div_ka, div_kb, divU_ka, divU_kb, mod_ka, mod_kb, pow_ka, pow_kb, shl_ka, shl_kb, shr_ka, shr_kb, eq_ka, eq_kb, ne_ka, ne_kb, eqD_ka, eqD_kb, neD_ka, neD_kb, isN_ka, isN_kb, notN_ka, notN_kb, isB_ka, isB_kb, notB_ka, notB_kb, ixS_ka, ixS_kb, ixT_ka, ixT_kb, neL_ka, neL_kb, ixL_ka, ixL_kb, inL_ka, inL_kb, notInL_ka, notInL_kb, cat_ka, cat_kb, rep_ka, rep_kb, eq_i, eq_s, ne_i, ne_s, isB_f, notB_f, isN_f, notN_f, ixL_f, ixT_f, ixS_f, len_f, lenS_f, abs_f, min2_f, max2_f, int_f, intB_f, gcd_f, listN_f, runX_eq, res_rt, res_ro, res_nx, res_xc, at0, at1, at2, rng_if, lcL_nil, mul_f, div_f, divU_f, mod_f, pow_f, shl_f, shr_f, cat_f, lcm_f, repr_f, List.getElem?_cons_zero, List.getElem?_cons_succ, List.set_cons_zero, List.set_cons_succ, List.length_cons, List.length_nil, Nat.reduceAdd, Nat.reduceLT, Nat.reduceLeDiff, Nat.reduceEqDiff, if_true, if_false, Option.map_some, Option.map_none, Option.bind_some, Option.bind_none, reduceIte, decide_true, decide_false, R.start, avS, R.frz, at0, at1, at2, allXb, Sv.isX, List.all_cons, List.all_nil, Bool.and_true, Bool.true_and, Bool.and_false, Bool.false_and, List.flatten_cons, List.map_cons, List.map_nil, List.cons_append, List.nil_append, List.replicate_succ, List.replicate_zero, Bool.not_true, Bool.not_false, Nat.reduceMul, Nat.reduceSub, Nat.zero_add, and_self, and_true, true_and, and_false, false_and, *])
variable {K : PySem.W.Frag} {mg : Str → Option Value} (T : Tx K mg)
/-- small fractions -/
structure Sm (x : Int × Int) : Prop where
  is : IsF x
  num : x.1.natAbs < 2 ^ 4
  den : x.2.natAbs < 2 ^ 3
structure Ws (ws : List (Int × Int)) : Prop where
  sm : ∀ x ∈ ws, Sm x
  len : ws.length ≤ 7
theorem Ws.fs {ws : List (Int × Int)} (W : Ws ws) : Fs ws 4 3 := ⟨fun f h => (W.sm f h).is, fun f h => (W.sm f h).num, fun f h => (W.sm f h).den, by decide, by have := W.len; omega⟩
def wOne (p : Int × (Int × Int)) : Int × Int := low (p.1 * p.2.1) p.2.2
def wFs (ns : List Int) (ws : List (Int × Int)) : List (Int × Int) := (ns.zip ws).map wOne
def wF (ns : List Int) (ws : List (Int × Int)) : Int × Int := low (dotF ns (numF ws (lcmF ws))) (lcmF ws)
theorem w_sum (S P : Int) : ∀ (ns : List Int) (ws : List (Int × Int)), (∀ w ∈ ws, w.2 ≠ 0 ∧ w.2 ∣ S) → (∀ f ∈ wFs ns ws, f.2 ∣ P) → (numF (wFs ns ws) P).sum * S = dotF ns (numF ws S) * P
  | [], ws, _, _ => by show (0 : Int) * S = dotF [] _ * P; unfold dotF; simp
  | n :: ns, [], _, _ => by show (0 : Int) * S = dotF (n :: ns) [] * P; unfold dotF; simp
  | n :: ns, w :: ws, h1, h2 => by
    have ih := w_sum S P ns ws (fun x hx => h1 x (List.mem_cons_of_mem _ hx)) (fun x hx => h2 x (List.mem_cons_of_mem _ hx))
    obtain ⟨w0, m, hm⟩ := h1 w (List.mem_cons_self ..)
    obtain ⟨m', hm'⟩ := h2 (wOne (n, w)) (List.mem_cons_self ..)
    have f0 : (wOne (n, w)).2 ≠ 0 := by have := (low_is (p := n * w.1) w0).pos; show (low (n * w.1) w.2).2 ≠ 0; omega
    have v : (wOne (n, w)).1 * w.2 = n * w.1 * (wOne (n, w)).2 := low_val w0
    have e1 : (numF (wFs (n :: ns) (w :: ws)) P).sum = (wOne (n, w)).1 * (P / (wOne (n, w)).2) + (numF (wFs ns ws) P).sum := rfl
    have e2 : dotF (n :: ns) (numF (w :: ws) S) = n * (w.1 * (S / w.2)) + dotF ns (numF ws S) := rfl
    have q1 : P / (wOne (n, w)).2 = m' := by rw [hm', Int.mul_ediv_cancel_left _ f0]
    have q2 : S / w.2 = m := by rw [hm, Int.mul_ediv_cancel_left _ w0]
    rw [e1, e2, q1, q2, Int.add_mul, Int.add_mul, ih]
    congr 1
    generalize (wOne (n, w)).1 = a at *
    generalize (wOne (n, w)).2 = b at *
    calc a * m' * S = a * m' * (w.2 * m) := by rw [← hm]
      _ = (a * w.2) * (m' * m) := by grind
      _ = n * w.1 * b * (m' * m) := by rw [v]
      _ = n * (w.1 * m) * (b * m') := by grind
      _ = n * (w.1 * m) * P := by rw [← hm']
theorem wOne_is {n : Int} {w : Int × Int} (h : w.2 ≠ 0) : IsF (wOne (n, w)) := low_is h
theorem wFs_fs {ns : List Int} {ws : List (Int × Int)} (ha : ∀ a ∈ ns, a.natAbs < 2 ^ 4) (W : Ws ws) : Fs (wFs ns ws) 8 3 := by
  have hm : ∀ f ∈ wFs ns ws, IsF f ∧ f.1.natAbs < 2 ^ 8 ∧ f.2.natAbs < 2 ^ 3 := by
    intro f hf
    obtain ⟨p, hp, rfl⟩ := List.mem_map.mp hf
    have h := List.of_mem_zip (show (p.1, p.2) ∈ _ from hp)
    have s := W.sm _ h.2
    have h0 : p.2.2 ≠ 0 := by have := s.is.pos; omega
    exact ⟨low_is h0, Nat.lt_of_le_of_lt (low_bd1 h0) (mulB (ha _ h.1) s.num), Nat.lt_of_le_of_lt (low_bd2 h0) s.den⟩
  have hl : (wFs ns ws).length ≤ 7 := by unfold wFs; rw [List.length_map, List.length_zip]; have := W.len; omega
  exact ⟨fun f h => (hm f h).1, fun f h => (hm f h).2.1, fun f h => (hm f h).2.2, by decide, by omega⟩
theorem lcmF_ne {ws : List (Int × Int)} (h : ∀ f ∈ ws, IsF f) : 0 < lcmF ws := (lcm_fold ws 1 (by decide) fun f hf => (h f hf).pos).1
theorem wF_eq {ns : List Int} {ws : List (Int × Int)} (ha : ∀ a ∈ ns, a.natAbs < 2 ^ 4) (W : Ws ws) : low (numF (wFs ns ws) (lcmF (wFs ns ws))).sum (lcmF (wFs ns ws)) = wF ns ws := by
  have F := wFs_fs ha W
  have p1 := lcmF_ne F.is
  have p2 := lcmF_ne W.fs.is
  have l1 := (lcm_fold ws 1 (by decide) fun f hf => (W.fs.is f hf).pos).2.2
  have l2 := (lcm_fold (wFs ns ws) 1 (by decide) fun f hf => (F.is f hf).pos).2.2
  exact low_ext (by omega) (by omega) (w_sum (lcmF ws) (lcmF (wFs ns ws)) ns ws (fun w hw => ⟨by have := (W.fs.is w hw).pos; omega, l1 w hw⟩) l2)
theorem wFs_range {ns : List Int} {ws : List (Int × Int)} (h : ns.length = ws.length) : wFs ns ws = (List.range ns.length).map fun k => wOne (ns.getD k 0, ws.getD k (0, 1)) := by
  unfold wFs
  refine List.ext_getElem (by simp [h]) ?_
  intro i h1 h2
  have i1 : i < ns.length := by simpa using h2
  have i2 : i < ws.length := by omega
  simp [List.getElem?_eq_getElem i1, List.getElem?_eq_getElem i2]
theorem get_at {α : Type} {en : α → PyData} {xs : List α} {k : Nat} {d : α} (h : k < xs.length) : atI (xs.map en) (0 + (k : Int)) = some (en (xs.getD k d)) ∧ xs.getD k d ∈ xs := by
  have e : xs.getD k d = xs[k] := by rw [List.getD_eq_getElem?_getD, List.getElem?_eq_getElem h]; rfl
  rw [e]
  exact ⟨atI_in (by omega) (by rw [show ((0 : Int) + (k : Int)).toNat = k by omega]; exact List.getElem?_eq_getElem h), List.getElem_mem h⟩
theorem f_weighted {ns : List Int} {ws : List (Int × Int)} (h : ns.length = ws.length) (ha : ∀ a ∈ ns, a.natAbs < 2 ^ 4) (W : Ws ws) : (fn_law_weighted T).f [.v (.d (.list (ns.map .int))), fvs ws] = .ok (.d (fd (wF ns ws))) := by
  have h1 := f_law_added T (wFs_fs ha W)
  rw [wF_eq ha W] at h1
  have m1 := fnm_law_added T
  have hc : lcL (K := K) (.name 2) .yes (.call (fn_law_lowest T) (fno_law_lowest T) (.cons false (.op O2.mul (.op O2.ixL (.var 0) (.var 2)) (.op O2.ixT (.op O2.ixL (.var 1) (.var 2)) (.int 0))) (.cons false (.op O2.ixT (.op O2.ixL (.var 1) (.var 2)) (.int 1)) .nil))) [.v (.d (.list (ns.map .int))), .v (.d (.list (ws.map fd))), .x] (irange 0 ns.length) = some ((wFs ns ws).map fd) := by
    rw [wFs_range h, List.map_map]
    refine lcL_map (en := fun k : Nat => PyData.int (0 + (k : Int))) (xs := List.range ns.length) fun j hj => ?_
    have hj : j < ns.length := List.mem_range.mp hj
    obtain ⟨a1, b1⟩ := get_at (en := PyData.int) (d := 0) hj
    obtain ⟨a2, b2⟩ := get_at (en := fd) (d := (0, 1)) (xs := ws) (k := j) (by omega)
    have s := W.sm _ b2
    have na := ha _ b1
    generalize hw : ws.getD j (0, 1) = w at a2 b2 s
    generalize hn : ns.getD j 0 = n at a1 b1 na
    have c1 : CMulU n w.1 := mulU na s.num (by decide)
    have h2 := f_lowest T (k := 3) (p := n * w.1) (q := w.2) (by have := s.is.pos; omega) (by decide) (by decide) s.den
    have m2 := fnm_law_lowest T
    show lcOne _ _ _ _ _ = some (some (fd (wOne (ns.getD j 0, ws.getD j (0, 1)))))
    rw [hw, hn]
    unfold wOne
    obtain ⟨j', hj'⟩ : ∃ j', j' = 0 + (j : Int) := ⟨_, rfl⟩
    rw [← hj'] at a1 a2 ⊢
    rw [lcOne_eq]
    clear h1 hj hj' b1 b2 s na hw hn ha W h
    walk_at "evh"
  have hg : ((XG.name 2 : XG K).T.all fun i => decide (i ∈ [2])) = true := rfl
  have hr : ((ns.length : Nat) : Int).natAbs < 4611686018427387904 := by have := W.len; omega
  have hr2 : (irange 0 ns.length).length ≤ 100000 := by rw [irange_len]; have := W.len; omega
  have ht : ((ns.length : Nat) : Int).toNat = ns.length := rfl
  have q1 : ((ns.map PyData.int).length : Int) = (ns.length : Nat) := by rw [List.length_map]
  rw [fnf_law_weighted]
  refine runX_of ?_
  unfold xs_law_weighted
  unfold fvs at *
  clear ha W h
  walk_at "evh"
theorem f_law_load {rs : List Rw} {ws : List (Int × Int)} {m j : Nat} (R : RowsP rs m) (hj : j < m) (W : Ws ws) (h : ws.length = rs.length) : (fn_law_load T).f [.v (.d (.list (rs.map enR))), fvs ws, iv (0 + (j : Int))] = .ok (.d (fd (loadF rs ws j))) := by
  have h1 := f_weighted T (ns := col rs j) (by unfold col; rw [List.length_map, h]) (col_bd R hj) W
  have m1 := fnm_law_weighted T
  have hca := col_at R hj
  obtain ⟨j', hj'⟩ : ∃ j', j' = 0 + (j : Int) := ⟨_, rfl⟩
  rw [← hj'] at hca ⊢
  have hl1 : (rs.map enR).length ≤ 100000 := by rw [List.length_map]; have := R.cnt; omega
  have hc2 : lcL (K := K) (.name 3) .yes (.op O2.ixL (.op O2.ixT (.var 3) (.int 0)) (.var 2)) [.v (.d (.list (rs.map enR))), .v (.d (.list (ws.map fd))), .v (.d (.int j')), .x] (rs.map enR) = some ((col rs j).map .int) := by
    unfold col
    rw [List.map_map]
    refine lcL_map fun r hr => ?_
    have ha := hca r hr
    rw [lcOne_eq]
    unfold enR
    clear h1 hl1 hr hca hj' hj R W h
    walk_at "evh"
    rfl
  have hg : ((XG.name 3 : XG K).T.all fun i => decide (i ∈ [3])) = true := rfl
  rw [fnf_law_load]
  refine runX_of ?_
  unfold xs_law_load
  unfold fvs at *
  unfold loadF
  unfold wF at h1
  clear R W h hca hj hj'
  walk_at "evh"
theorem f_law_gain {rs : List Rw} {ws : List (Int × Int)} {m : Nat} (R : RowsP rs m) (W : Ws ws) (h : ws.length = rs.length) : (fn_law_gain T).f [.v (.d (.list (rs.map enR))), fvs ws] = .ok (.d (fd (gainF rs ws))) := by
  have h1 := f_weighted T (ns := rs.map fun r => r.b) (by rw [List.length_map, h]) (b_bd R) W
  have m1 := fnm_law_weighted T
  have hl1 : (rs.map enR).length ≤ 100000 := by rw [List.length_map]; have := R.cnt; omega
  have hc2 : lcL (K := K) (.name 2) .yes (.op O2.ixT (.var 2) (.int 2)) [.v (.d (.list (rs.map enR))), .v (.d (.list (ws.map fd))), .x] (rs.map enR) = some ((rs.map fun r => r.b).map .int) := by
    rw [List.map_map]
    refine lcL_map fun r hr => ?_
    rw [lcOne_eq]
    unfold enR
    clear h1 hl1 hr R W h
    walk_at "ev"
    rfl
  have hg : ((XG.name 2 : XG K).T.all fun i => decide (i ∈ [2])) = true := rfl
  rw [fnf_law_gain]
  refine runX_of ?_
  unfold xs_law_gain
  unfold fvs at *
  unfold gainF
  unfold wF at h1
  clear R W h
  walk_at "evh"
end Q

set_option Elab.async false
set_option linter.all false
set_option maxRecDepth 100000
set_option maxHeartbeats 4000000
namespace Q
open PySem PySem.Spec PyProof.Rows L2 Z R QF
local macro_rules | `(tactic| walk_at "ds") => `(tactic| first | assumption | decide | omega | exact ⟨by decide, by decide⟩ | exact ⟨by omega, by omega⟩ | exact div_lit ⟨by omega, by omega⟩ | exact mul_r (by omega) | exact mul_l (by omega))
local macro_rules | `(tactic| walk_at "ev") => `(tactic| simp (disch := walk_at "ds") only [bind_ok, bind_ex, bind_no, oc_k, oc_x, oc_n, of_some, of_none, okV_ok, okV_ex, okV_no, bOf_b, iOf_i, asL_l, asS_l, asS_s, lOf_l, var_ev, var_el, var_es, int_ev, bool_ev, non_ev, str_ev, av_f, av_t, op_ev, op_el, op_es, opN_ev, e_ev, e_el, e_es, neg_ev, bv_eq, iv_eq, andV_ev, orV_ev, notV_ev, ife_ev, ife_el, ife_es, chain_ev, inK_ev, setfld_ev, tup_ev, dev_eq, avD_nil, avD_cons, lst_ev, anil_ev, acons_ev, bi_ev, biN_ev, call_ev, call_el, call_es, callN_ev, meth_ev, meth_el, meth_es, methN_ev, make_ev, fld_ev, fld_el, fld_es, test_ev, B_ev, and_ev, or_ev, not_ev, truthL_ev, ifeT_ev, yes_ev, onone_ev, osome_ev, sl_ev, slS_ev, lend_ev, blank_ev, ilist_ev, irng1_ev, irng2_ev, avI1_i, avI2_i, ienum_ev, izip_ev, gname_ev, gnil_ev, gcons_ev, gtup_ev, glst_ev, lc_ev, nx_ev, brk_ev, cnt_ev, seq_ev, set_ev, setN_ev, asg_ev, par_ev, aug_ev, seti_ev, app_ev, ite_ev, ret_ev, retN_ev, retO_ev, retV_ev, drop_ev, frz_ev, for_ev, lp_nil, raise_ev, try_ev, add_ka, add_kb, add_f, sub_ka, sub_kb, sub_f, band_ka, band_kb, band_f, lt_ka, lt_kb, lt_f, le_ka, le_kb, le_f, gt_ka, gt_kb, gt_f, ge_ka, ge_kb, ge_f, mul_ka, mul_kb, div_ka, div_kb, divU_ka, divU_kb, mod_ka, mod_kb, pow_ka, pow_kb, shl_ka, shl_kb, shr_ka, shr_kb, eq_ka, eq_kb, ne_ka, ne_kb, eqD_ka, eqD_kb, neD_ka, neD_kb, isN_ka, isN_kb, notN_ka, notN_kb, isB_ka, isB_kb, notB_ka, notB_kb, ixS_ka, ixS_kb, ixT_ka, ixT_kb, neL_ka, neL_kb, ixL_ka, ixL_kb, inL_ka, inL_kb, notInL_ka, notInL_kb, cat_ka, cat_kb, rep_ka, rep_kb, eq_i, eq_s, ne_i, ne_s, isB_f, notB_f, isN_f, notN_f, ixL_f, ixT_f, ixS_f, len_f, lenS_f, abs_f, min2_f, max2_f, int_f, intB_f, gcd_f, listN_f, runX_eq, res_rt, res_ro, res_nx, res_xc, at0, at1, at2, rng_if, lcL_nil, mul_f, div_f, divU_f, mod_f, pow_f, shl_f, shr_f, cat_f, lcm_f, repr_f, List.getElem?_cons_zero, List.getElem?_cons_succ, List.set_cons_zero, List.set_cons_succ, List.length_cons, List.length_nil, Nat.reduceAdd, Nat.reduceLT, Nat.reduceLeDiff, Nat.reduceEqDiff, if_true, if_false, Option.map_some, Option.map_none, Option.bind_some, Option.bind_none, reduceIte, decide_true, decide_false, R.start, avS, R.frz, at0, at1, at2, allXb, Sv.isX, List.all_cons, List.all_nil, Bool.and_true, Bool.true_and, Bool.and_false, Bool.false_and, List.flatten_cons, List.map_cons, List.map_nil, List.cons_append, List.nil_append, List.replicate_succ, List.replicate_zero, Bool.not_true, Bool.not_false, Nat.reduceMul, Nat.reduceSub, Nat.zero_add, and_self, and_true, true_and, and_false, false_and])
local macro_rules | `(tactic| walk_at "evh") => `(tactic| simp (disch := walk_at "ds") only [bind_ok, bind_ex, bind_no, oc_k, oc_x, oc_n, of_some, of_none, okV_ok, okV_ex, okV_no, bOf_b, iOf_i, asL_l, asS_l, asS_s, lOf_l, var_ev, var_el, var_es, int_ev, bool_ev, non_ev, str_ev, av_f, av_t, op_ev, op_el, op_es, opN_ev, e_ev, e_el, e_es, neg_ev, bv_eq, iv_eq, andV_ev, orV_ev, notV_ev, ife_ev, ife_el, ife_es, chain_ev, inK_ev, setfld_ev, tup_ev, dev_eq, avD_nil, avD_cons, lst_ev, anil_ev, acons_ev, bi_ev, biN_ev, call_ev, call_el, call_es, callN_ev, meth_ev, meth_el, meth_es, methN_ev, make_ev, fld_ev, fld_el, fld_es, test_ev, B_ev, and_ev, or_ev, not_ev, truthL_ev, ifeT_ev, yes_ev, onone_ev, osome_ev, sl_ev, slS_ev, lend_ev, blank_ev, ilist_ev, irng1_ev, irng2_ev, avI1_i, avI2_i, ienum_ev, izip_ev, gname_ev, gnil_ev, gcons_ev, gtup_ev, glst_ev, lc_ev, nx_ev, brk_ev, cnt_ev, seq_ev, set_ev, setN_ev, asg_ev, par_ev, aug_ev, seti_ev, app_ev, ite_ev, ret_ev, retN_ev, retO_ev, retV_ev, drop_ev, frz_ev, for_ev, lp_nil, raise_ev, try_ev, add_ka, add_kb, add_f, sub_ka, sub_kb, sub_f, band_ka, band_kb, band_f, lt_ka, lt_kb, lt_f, le_ka, le_kb, le_f, gt_ka, gt_kb, gt_f, ge_ka, ge_kb, ge_f, mul_ka, mul_kb, div_ka, div_kb, divU_ka, divU_kb, mod_ka, mod_kb, pow_ka, pow_kb, shl_ka, shl_kb, shr_ka, shr_kb, eq_ka, eq_kb, ne_ka, ne_kb, eqD_ka, eqD_kb, neD_ka, neD_kb, isN_ka, isN_kb, notN_ka, notN_kb, isB_ka, isB_kb, notB_ka, notB_kb, ixS_ka, ixS_kb, ixT_ka, ixT_kb, neL_ka, neL_kb, ixL_ka, ixL_kb, inL_ka, inL_kb, notInL_ka, notInL_kb, cat_ka, cat_kb, rep_ka, rep_kb, eq_i, eq_s, ne_i, ne_s, isB_f, notB_f, isN_f, notN_f, ixL_f, ixT_f, ixS_f, len_f, lenS_f, abs_f, min2_f, max2_f, int_f, intB_f, gcd_f, listN_f, runX_eq, res_rt, res_ro, res_nx, res_xc, at0, at1, at2, rng_if, lcL_nil, mul_f, div_f, divU_f, mod_f, pow_f, shl_f, shr_f, cat_f, lcm_f, repr_f, List.getElem?_cons_zero, List.getElem?_cons_succ, List.set_cons_zero, List.set_cons_succ, List.length_cons, List.length_nil, Nat.reduceAdd, Nat.reduceLT, Nat.reduceLeDiff, Nat.reduceEqDiff, if_true, if_false, Option.map_some, Option.map_none, Option.bind_some, Option.bind_none, reduceIte, decide_true, decide_false, R.start, avS, R.frz, at0, at1, at2, allXb, Sv.isX, List.all_cons, List.all_nil, Bool.and_true, Bool.true_and, Bool.and_false, Bool.false_and, List.flatten_cons, List.map_cons, List.map_nil, List.cons_append, List.nil_append, List.replicate_succ, List.replicate_zero, Bool.not_true, Bool.not_false, Nat.reduceMul, Nat.reduceSub, Nat.zero_add, and_self, and_true, true_and, and_false, false_and, *])
variable {K : PySem.W.Frag} {mg : Str → Option Value} (T : Tx K mg)
/-- a loop that stops at the first one that fails -/
theorem lp_all {α : Type} {g : XG K} {s : XS K} {en : α → PyData} (E : Sv → List Sv) (p : α → Bool) (v : Vl) {xs : List α} (h : ∀ x ∈ xs, ∀ z, ∃ st1, g.ev (en x) (E z) = some st1 ∧ (if p x = true then ∃ z', s.ev st1 = .nx (E z') else s.ev st1 = .rt v)) (z : Sv) : if xs.all p = true then ∃ z', lp g s (xs.map en) (E z) = .nx (E z') else lp g s (xs.map en) (E z) = .rt v := by
  induction xs generalizing z with
  | nil => exact ⟨z, rfl⟩
  | cons x xs ih =>
    obtain ⟨st1, h1, h2⟩ := h x (List.mem_cons_self ..) z
    rw [List.map_cons, lp_cons, h1, List.all_cons]
    by_cases hp : p x = true
    · rw [if_pos hp] at h2
      obtain ⟨z', h2⟩ := h2
      rw [hp, Bool.true_and]
      simp only [h2]
      exact ih (fun y hy => h y (List.mem_cons_of_mem _ hy)) z'
    · rw [if_neg hp] at h2
      rw [Bool.not_eq_true] at hp
      rw [hp, Bool.false_and, if_neg Bool.false_ne_true]
      simp only [h2]
theorem f_law_fit {rs : List Rw} {ws : List (Int × Int)} (h : ws.length = rs.length) (hl : rs.length ≤ 100000) : (fn_law_fit T).f [.v (.d (.list (rs.map enR))), fvs ws] = .ok (.d (.bool (fitsB rs ws))) := by
  have q1 : ((rs.map enR).length : Int) = (rs.length : Nat) := by rw [List.length_map]
  have q2 : ((ws.map fd).length : Int) = (ws.length : Nat) := by rw [List.length_map]
  have d1 : decide (((ws.length : Nat) : Int) = ((rs.length : Nat) : Int)) = true := decide_eq_true (by omega)
  have d2 : decide (ws.length = rs.length) = true := decide_eq_true h
  have hr : ((rs.length : Nat) : Int).natAbs < 4611686018427387904 := by omega
  have e0 : (rs.zip ws).all (fun p => fitB p.1.r p.2) = (List.range rs.length).all fun k => fitB (rs.getD k ⟨[], .equal, 0⟩).r (ws.getD k (0, 1)) := by
    have : rs.zip ws = (List.range rs.length).map fun k => (rs.getD k ⟨[], .equal, 0⟩, ws.getD k (0, 1)) := by
      refine List.ext_getElem (by simp [h]) ?_
      intro i h1 h2
      have i1 : i < rs.length := by simpa using h2
      have i2 : i < ws.length := by omega
      simp [List.getElem?_eq_getElem i1, List.getElem?_eq_getElem i2]
    rw [this, List.all_map]
    rfl
  have main := lp_all (K := K) (g := .name 2) (s := xb_law_fit_1 T) (en := fun k : Nat => PyData.int (0 + (k : Int))) (fun z => [.v (.d (.list (rs.map enR))), .v (.d (.list (ws.map fd))), z]) (fun k => fitB (rs.getD k ⟨[], .equal, 0⟩).r (ws.getD k (0, 1))) (.d (.bool false)) (xs := List.range rs.length) (by
    intro k hk z
    have hk : k < rs.length := List.mem_range.mp hk
    obtain ⟨a1, -⟩ := get_at (en := enR) (d := ⟨[], .equal, 0⟩) hk
    obtain ⟨a2, -⟩ := get_at (en := fd) (d := (0, 1)) (xs := ws) (k := k) (by omega)
    show ∃ st1, _ ∧ (if fitB (rs.getD k ⟨[], .equal, 0⟩).r (ws.getD k (0, 1)) = true then _ else _)
    generalize ws.getD k (0, 1) = w at a2 ⊢
    generalize rs.getD k ⟨[], .equal, 0⟩ = r at a1 ⊢
    obtain ⟨j', hj'⟩ : ∃ j', j' = 0 + (k : Int) := ⟨_, rfl⟩
    rw [← hj'] at a1 a2 ⊢
    refine ⟨_, by walk_at "ev"; rfl, ?_⟩
    have r1 := relL (K := K) r.r
    have r2 := relM (K := K) r.r
    unfold xb_law_fit_1
    replace a1 : atI (rs.map enR) j' = some (.tuple [.list (r.ws.map .int), .str r.r.s, .int r.b]) := a1
    clear hj' hk q1 q2 d1 d2 hr e0 h hl
    generalize hrr : r.r = R at *
    cases R
    · have e : Rel.isL .least = true := rfl
      have e2 : Rel.isM .least = false := rfl
      rw [e] at r1
      rw [e2] at r2
      clear e e2 hrr
      show if decide (0 ≤ w.1) = true then _ else _
      by_cases c : w.1 < 0
      · have c1 : decide (w.1 < 0) = true := decide_eq_true c
        rw [if_neg (by rw [decide_eq_true_eq]; omega)]
        clear c
        walk_at "evh"
      · have c1 : decide (w.1 < 0) = false := decide_eq_false c
        rw [if_pos (by rw [decide_eq_true_eq]; omega)]
        clear c
        refine ⟨.v (.d (.int j')), ?_⟩
        walk_at "evh"
    · have e : Rel.isL .most = false := rfl
      have e2 : Rel.isM .most = true := rfl
      rw [e] at r1
      rw [e2] at r2
      clear e e2 hrr
      show if decide (w.1 ≤ 0) = true then _ else _
      by_cases c : 0 < w.1
      · have c1 : decide (0 < w.1) = true := decide_eq_true c
        rw [if_neg (by rw [decide_eq_true_eq]; omega)]
        clear c
        walk_at "evh"
      · have c1 : decide (0 < w.1) = false := decide_eq_false c
        rw [if_pos (by rw [decide_eq_true_eq]; omega)]
        clear c
        refine ⟨.v (.d (.int j')), ?_⟩
        walk_at "evh"
    · have e : Rel.isL .equal = false := rfl
      have e2 : Rel.isM .equal = false := rfl
      rw [e] at r1
      rw [e2] at r2
      clear e e2 hrr
      show if true = true then _ else _
      rw [if_pos rfl]
      refine ⟨.v (.d (.int j')), ?_⟩
      walk_at "evh") .x
  rw [fnf_law_fit]
  refine runX_of ?_
  unfold xs_law_fit
  unfold fvs fitsB
  rw [d2, Bool.true_and, e0]
  have ht : ((rs.length : Nat) : Int).toNat = rs.length := rfl
  refine run_nx (ite_f ?_ rfl) ?_
  · clear main e0 h d2
    walk_at "evh"
  by_cases c : (List.range rs.length).all (fun k => fitB (rs.getD k ⟨[], .equal, 0⟩).r (ws.getD k (0, 1))) = true
  · rw [if_pos c] at main
    obtain ⟨z', hm⟩ := main
    rw [c]
    refine run_nx (for_nx (ds := irange 0 rs.length) ?_ hm) ?_
    · clear hm e0 h c d1 d2
      walk_at "evh"
    · walk_at "ev"
  · rw [if_neg c] at main
    rw [Bool.not_eq_true] at c
    rw [c, seq_ev]
    have hf : (XS.for_ (.range1 (.cons false (.bi Bi.len (.cons true (.var 0) .nil)) .nil)) (.name 2) (xb_law_fit_1 T) : XS K).ev (R.start [.v (.d (.list (rs.map enR))), .v (.d (.list (ws.map fd)))] 1) = .rt (.d (.bool false)) := by
      refine for_nx (ds := irange 0 rs.length) ?_ main
      clear main e0 h c d1 d2
      walk_at "evh"
    rw [hf]
/-! multipliers turned to fit -/
def sg (r : Rel) (x : Int × Int) : Int × Int := match r with
  | .least => ((if x.1 < 0 then -x.1 else x.1), x.2)
  | .most => (-(if x.1 < 0 then -x.1 else x.1), x.2)
  | .equal => x
theorem sg_sm {r : Rel} {x : Int × Int} (h : Sm x) : Sm (sg r x) := by
  have key : ∀ a : Int, a.natAbs = x.1.natAbs → Sm (a, x.2) := fun a ha => ⟨⟨h.is.pos, by show Nat.gcd a.natAbs _ = 1; rw [ha]; exact h.is.cop⟩, by show a.natAbs < _; rw [ha]; exact h.num, h.den⟩
  cases r
  · exact key _ (by split <;> omega)
  · exact key _ (by split <;> omega)
  · exact h
theorem f_signed {rs : List Rw} {ws : List (Int × Int)} (hl : rs.length ≤ 6) : (fn_law_signed T).f [.v (.d (.list (rs.map enR))), fvs ws] = .ok (.d (.list (((rs.zip ws).map fun p => sg p.1.r p.2).map fd))) := by
  have hz := zipD_map enR fd rs ws
  rw [fnf_law_signed]
  refine runX_of ?_
  unfold xs_law_signed fvs
  refine run_nx (st1 := [.v (.d (.list (rs.map enR))), .v (.d (.list (ws.map fd))), .ol [], .x, .x]) (by clear hz; walk_at "ev") ?_
  obtain ⟨⟨fs, z3, z4⟩, hf, hlp⟩ := lp_ex (K := K) (g := .tup (.cons (.name 3) (.cons (.name 4) .nil))) (s := xb_law_signed_1 T) (en := fun p : Rw × (Int × Int) => .tuple [enR p.1, fd p.2]) (xs := rs.zip ws) (fun y : List (Int × Int) × Sv × Sv => [.v (.d (.list (rs.map enR))), .v (.d (.list (ws.map fd))), .ol (y.1.map fd), y.2.1, y.2.2]) (fun pre y => y.1 = pre.map fun p => sg p.1.r p.2) (x0 := ([], .x, .x)) rfl (by
    rintro pre ⟨r, x⟩ post ⟨fs, z3, z4⟩ e hf
    have hf : fs = pre.map fun p => sg p.1.r p.2 := hf
    have hlen := le_len e
    rw [List.length_zip] at hlen
    have hn1 : (fs.map fd).length < 1000000 := by rw [List.length_map, hf, List.length_map]; omega
    refine ⟨(fs ++ [sg r.r x], .v (.d (enR r)), .v (.d (fd (sg r.r x)))), by rw [List.map_append, hf]; rfl, [.v (.d (.list (rs.map enR))), .v (.d (.list (ws.map fd))), .ol (fs.map fd), .v (.d (enR r)), .v (.d (fd x))], by walk_at "ev", .inl ?_⟩
    rw [List.map_append]
    have r1 := relL (K := K) r.r
    have r2 := relM (K := K) r.r
    unfold xb_law_signed_1 enR
    clear hf hlen e hz hl
    generalize r.r = R at *
    cases R
    · have e : Rel.isL .least = true := rfl
      have e2 : Rel.isM .least = false := rfl
      rw [e] at r1
      rw [e2] at r2
      clear e e2
      unfold sg
      walk_at "evh"
    · have e : Rel.isL .most = false := rfl
      have e2 : Rel.isM .most = true := rfl
      rw [e] at r1
      rw [e2] at r2
      clear e e2
      unfold sg
      walk_at "evh"
    · have e : Rel.isL .equal = false := rfl
      have e2 : Rel.isM .equal = false := rfl
      rw [e] at r1
      rw [e2] at r2
      clear e e2
      unfold sg
      walk_at "evh")
  have hf : fs = (rs.zip ws).map fun p => sg p.1.r p.2 := hf
  subst hf
  refine run_nx (for_nx (ds := (rs.zip ws).map fun p => .tuple [enR p.1, fd p.2]) (by clear hlp; walk_at "evh") hlp) ?_
  clear hlp hz
  walk_at "ev"
theorem xh_w (n : Int) {a b c x : Sv} : (xh_law_refused T).ev T.c_WrongSize n [a, b, c, x] = .rt (.d (.tuple [.bool true, .int n])) := by
  have hk : T.c_WrongSize ∈ T.kn := by unfold Tx.kn; simp
  have hb := T.is_WrongSize_WrongSize
  show mute ((xu_law_refused T 0 (.ref T.c_WrongSize) (some 0)).ev ([a, b, c, x].set 3 (.er 0 0 n))) = _
  unfold xu_law_refused
  simp [XS.ret, XE.tup, XE.of, XA.dev, XA.cons, XA.nil, XE.av, XE.isX, XE.errAt, hk, hb, Rs.bind, Rs.oc, Rs.of, mute, avD]
theorem f_refused0 {ps : List Int} {rs : List Rw} {ws : List (Int × Int)} (hl : rs.length ≤ 100000) (h : ws.length ≠ rs.length) : (fn_law_refused T).f [iv 0, pgm T ps rs, fvs ws] = .ok (.d (.tuple [.bool true, .int 0])) := by
  have h1 := f_loads_x T (ps := ps) hl h
  have hm := fnm_loads T
  have he := T.em_WrongSize
  have hx := xh_w T 0 (a := .v (.d (.int 0))) (b := .v (pgv T ps rs)) (c := .v (.d (.list (ws.map fd)))) (x := .x)
  have hd : decide ((0 : Int) = 0) = true := rfl
  rw [fnf_law_refused]
  refine runX_of ?_
  unfold xs_law_refused
  unfold fvs pgm at *
  clear h hl
  walk_at "evh"
  rfl
theorem f_refused1 {ps : List Int} {rs : List Rw} {ws : List (Int × Int)} (hl : rs.length ≤ 100000) (h : ws.length ≠ rs.length) : (fn_law_refused T).f [iv 1, pgm T ps rs, fvs ws] = .ok (.d (.tuple [.bool true, .int 0])) := by
  have h1 := f_gain_x T (ps := ps) hl h
  have hm := fnm_gain T
  have he := T.em_WrongSize
  have hx := xh_w T 0 (a := .v (.d (.int 1))) (b := .v (pgv T ps rs)) (c := .v (.d (.list (ws.map fd)))) (x := .x)
  have hd : decide ((1 : Int) = 0) = false := rfl
  rw [fnf_law_refused]
  refine runX_of ?_
  unfold xs_law_refused
  unfold fvs pgm at *
  clear h hl
  walk_at "evh"
  rfl
end Q

set_option Elab.async false
set_option linter.all false
set_option maxRecDepth 100000
set_option maxHeartbeats 4000000
namespace Q
open PySem PySem.Spec PyProof.Rows L2 Z R QF
local macro_rules | `(tactic| walk_at "ds") => `(tactic| first | assumption | decide | omega | exact ⟨by decide, by decide⟩ | exact ⟨by omega, by omega⟩ | exact div_lit ⟨by omega, by omega⟩ | exact mul_r (by omega) | exact mul_l (by omega))
local macro_rules | `(tactic| walk_at "ev") => `(tactic| simp (disch := walk_at "ds") only [bind_ok, bind_ex, bind_no, oc_k, oc_x, oc_n, of_some, of_none, okV_ok, okV_ex, okV_no, bOf_b, iOf_i, asL_l, asS_l, asS_s, lOf_l, var_ev, var_el, var_es, int_ev, bool_ev, non_ev, str_ev, av_f, av_t, op_ev, op_el, op_es, opN_ev, e_ev, e_el, e_es, neg_ev, bv_eq, iv_eq, andV_ev, orV_ev, notV_ev, ife_ev, ife_el, ife_es, chain_ev, inK_ev, setfld_ev, tup_ev, dev_eq, avD_nil, avD_cons, lst_ev, anil_ev, acons_ev, bi_ev, biN_ev, call_ev, call_el, call_es, callN_ev, meth_ev, meth_el, meth_es, methN_ev, make_ev, fld_ev, fld_el, fld_es, test_ev, B_ev, and_ev, or_ev, not_ev, truthL_ev, ifeT_ev, yes_ev, onone_ev, osome_ev, sl_ev, slS_ev, lend_ev, blank_ev, ilist_ev, irng1_ev, irng2_ev, avI1_i, avI2_i, ienum_ev, izip_ev, gname_ev, gnil_ev, gcons_ev, gtup_ev, glst_ev, lc_ev, nx_ev, brk_ev, cnt_ev, seq_ev, set_ev, setN_ev, asg_ev, par_ev, aug_ev, seti_ev, app_ev, ite_ev, ret_ev, retN_ev, retO_ev, retV_ev, drop_ev, frz_ev, for_ev, lp_nil, raise_ev, try_ev, add_ka, add_kb, add_f, sub_ka, sub_kb, sub_f, band_ka, band_kb, band_f, lt_ka, lt_kb, lt_f, le_ka, le_kb, le_f, gt_ka, gt_kb, gt_f, ge_ka, ge_kb, ge_f, mul_ka, mul_kb, div_ka, div_kb, divU_ka, divU_kb, mod_ka, mod_kb, pow_ka, pow_kb, shl_ka, shl_kb, shr_ka, shr_kb, eq_ka, eq_kb, ne_ka, ne_kb, eqD_ka, eqD_kb, neD_ka, neD_kb, isN_ka, isN_kb, notN_ka, notN_kb, isB_ka, isB_kb, notB_ka, notB_kb, ixS_ka, ixS_kb, ixT_ka, ixT_kb, neL_ka, neL_kb, ixL_ka, ixL_kb, inL_ka, inL_kb, notInL_ka, notInL_kb, cat_ka, cat_kb, rep_ka, rep_kb, eq_i, eq_s, ne_i, ne_s, isB_f, notB_f, isN_f, notN_f, ixL_f, ixT_f, ixS_f, len_f, lenS_f, abs_f, min2_f, max2_f, int_f, intB_f, gcd_f, listN_f, runX_eq, res_rt, res_ro, res_nx, res_xc, at0, at1, at2, rng_if, lcL_nil, mul_f, div_f, divU_f, mod_f, pow_f, shl_f, shr_f, cat_f, lcm_f, repr_f, List.getElem?_cons_zero, List.getElem?_cons_succ, List.set_cons_zero, List.set_cons_succ, List.length_cons, List.length_nil, Nat.reduceAdd, Nat.reduceLT, Nat.reduceLeDiff, Nat.reduceEqDiff, if_true, if_false, Option.map_some, Option.map_none, Option.bind_some, Option.bind_none, reduceIte, decide_true, decide_false, R.start, avS, R.frz, at0, at1, at2, allXb, Sv.isX, List.all_cons, List.all_nil, Bool.and_true, Bool.true_and, Bool.and_false, Bool.false_and, List.flatten_cons, List.map_cons, List.map_nil, List.cons_append, List.nil_append, List.replicate_succ, List.replicate_zero, Bool.not_true, Bool.not_false, Nat.reduceMul, Nat.reduceSub, Nat.zero_add, and_self, and_true, true_and, and_false, false_and])
local macro_rules | `(tactic| walk_at "evh") => `(tactic| simp (disch := walk_at "ds") only [bind_ok, bind_ex, bind_no, oc_k, oc_x, oc_n, of_some, of_none, okV_ok, okV_ex, okV_no, bOf_b, iOf_i, asL_l, asS_l, asS_s, lOf_l, var_ev, var_el, var_es, int_ev, bool_ev, non_ev, str_ev, av_f, av_t, op_ev, op_el, op_es, opN_ev, e_ev, e_el, e_es, neg_ev, bv_eq, iv_eq, andV_ev, orV_ev, notV_ev, ife_ev, ife_el, ife_es, chain_ev, inK_ev, setfld_ev, tup_ev, dev_eq, avD_nil, avD_cons, lst_ev, anil_ev, acons_ev, bi_ev, biN_ev, call_ev, call_el, call_es, callN_ev, meth_ev, meth_el, meth_es, methN_ev, make_ev, fld_ev, fld_el, fld_es, test_ev, B_ev, and_ev, or_ev, not_ev, truthL_ev, ifeT_ev, yes_ev, onone_ev, osome_ev, sl_ev, slS_ev, lend_ev, blank_ev, ilist_ev, irng1_ev, irng2_ev, avI1_i, avI2_i, ienum_ev, izip_ev, gname_ev, gnil_ev, gcons_ev, gtup_ev, glst_ev, lc_ev, nx_ev, brk_ev, cnt_ev, seq_ev, set_ev, setN_ev, asg_ev, par_ev, aug_ev, seti_ev, app_ev, ite_ev, ret_ev, retN_ev, retO_ev, retV_ev, drop_ev, frz_ev, for_ev, lp_nil, raise_ev, try_ev, add_ka, add_kb, add_f, sub_ka, sub_kb, sub_f, band_ka, band_kb, band_f, lt_ka, lt_kb, lt_f, le_ka, le_kb, le_f, gt_ka, gt_kb, gt_f, ge_ka, ge_kb, ge_f, mul_ka, mul_kb, div_ka, div_kb, divU_ka, divU_kb, mod_ka, mod_kb, pow_ka, pow_kb, shl_ka, shl_kb, shr_ka, shr_kb, eq_ka, eq_kb, ne_ka, ne_kb, eqD_ka, eqD_kb, neD_ka, neD_kb, isN_ka, isN_kb, notN_ka, notN_kb, isB_ka, isB_kb, notB_ka, notB_kb, ixS_ka, ixS_kb, ixT_ka, ixT_kb, neL_ka, neL_kb, ixL_ka, ixL_kb, inL_ka, inL_kb, notInL_ka, notInL_kb, cat_ka, cat_kb, rep_ka, rep_kb, eq_i, eq_s, ne_i, ne_s, isB_f, notB_f, isN_f, notN_f, ixL_f, ixT_f, ixS_f, len_f, lenS_f, abs_f, min2_f, max2_f, int_f, intB_f, gcd_f, listN_f, runX_eq, res_rt, res_ro, res_nx, res_xc, at0, at1, at2, rng_if, lcL_nil, mul_f, div_f, divU_f, mod_f, pow_f, shl_f, shr_f, cat_f, lcm_f, repr_f, List.getElem?_cons_zero, List.getElem?_cons_succ, List.set_cons_zero, List.set_cons_succ, List.length_cons, List.length_nil, Nat.reduceAdd, Nat.reduceLT, Nat.reduceLeDiff, Nat.reduceEqDiff, if_true, if_false, Option.map_some, Option.map_none, Option.bind_some, Option.bind_none, reduceIte, decide_true, decide_false, R.start, avS, R.frz, at0, at1, at2, allXb, Sv.isX, List.all_cons, List.all_nil, Bool.and_true, Bool.true_and, Bool.and_false, Bool.false_and, List.flatten_cons, List.map_cons, List.map_nil, List.cons_append, List.nil_append, List.replicate_succ, List.replicate_zero, Bool.not_true, Bool.not_false, Nat.reduceMul, Nat.reduceSub, Nat.zero_add, and_self, and_true, true_and, and_false, false_and, *])
variable {K : PySem.W.Frag} {mg : Str → Option Value} (T : Tx K mg)
theorem pick3 (v : Int) : ∃ c : Int, (c = 0 ∨ c = 4 ∨ c = 8) ∧ atI [PyData.int 0, .int 4, .int 8] (v % 3) = some (.int c) := by
  have : v % 3 = 0 ∨ v % 3 = 1 ∨ v % 3 = 2 := by omega
  rcases this with h | h | h <;> rw [h]
  · exact ⟨0, .inl rfl, rfl⟩
  · exact ⟨4, .inr (.inl rfl), rfl⟩
  · exact ⟨8, .inr (.inr rfl), rfl⟩
theorem pickR (v : Int) : ∃ r : Rel, atI [PyData.str (PySem.Str.ofString "least"), .str (PySem.Str.ofString "most"), .str (PySem.Str.ofString "least"), .str (PySem.Str.ofString "equal"), .str (PySem.Str.ofString "most")] (v % 5) = some (.str r.s) := by
  have : v % 5 = 0 ∨ v % 5 = 1 ∨ v % 5 = 2 ∨ v % 5 = 3 ∨ v % 5 = 4 := by omega
  rcases this with h | h | h | h | h <;> rw [h]
  · exact ⟨.least, rfl⟩
  · exact ⟨.most, rfl⟩
  · exact ⟨.least, rfl⟩
  · exact ⟨.equal, rfl⟩
  · exact ⟨.most, rfl⟩
theorem f_some {ns : List Int} (hn : Nums ns 160) {p k : Int} (h : 0 ≤ p ∧ p ≤ 120 ∧ 0 ≤ k) : ∃ x, Sm x ∧ (fn_law_some T).f [nv ns, iv p, iv k] = .ok (.d (fd x)) := by
  obtain ⟨v1, -, a1, b1, c1⟩ := hn.at_ (i := p + k % 20) (by omega) (by omega)
  obtain ⟨v2, -, a2, b2, c2⟩ := hn.at_ (i := p + (k + 7) % 20) (by omega) (by omega)
  obtain ⟨v3, -, a3, b3, c3⟩ := hn.at_ (i := p + (k + 3) % 20) (by omega) (by omega)
  obtain ⟨c, hc, h2⟩ := pick3 v2
  have hq : (1 + v3 / 13 % 4) ≠ 0 := by omega
  have hq2 : (1 + v3 / 13 % 4).natAbs < 2 ^ 3 := by
    have : (2 : Nat) ^ 3 = 8 := rfl
    omega
  have ht : (v1 % 13 - c).natAbs < 2 ^ 4 := by
    have : (2 : Nat) ^ 4 = 16 := rfl
    omega
  have hl := f_lowest T (k := 3) (p := v1 % 13 - c) hq (by decide) (by decide) hq2
  have m1 := fnm_law_lowest T
  refine ⟨low (v1 % 13 - c) (1 + v3 / 13 % 4), ⟨low_is hq, Nat.lt_of_le_of_lt (low_bd1 hq) ht, Nat.lt_of_le_of_lt (low_bd2 hq) hq2⟩, ?_⟩
  rw [fnf_law_some]
  refine runX_of ?_
  unfold xs_law_some nv
  clear hn h hc hq hq2 ht b1 b2 b3 c1 c2 c3
  refine run_nx (st1 := [.v (.d (.list (ns.map .int))), .v (.d (.int p)), .v (.d (.int k)), .v (.d (.int (v1 % 13 - c)))]) ?_ ?_
  · clear hl a3
    walk_at "evh"
  · clear a1 a2 h2
    walk_at "evh"
def E9 (ns : List Int) (many count : Nat) (y : List Rw × Sv × Sv × Sv × Sv) : List Sv := [.v (.d (.list (ns.map .int))), .v (.d (.int 20)), .v (.d (.int many)), .v (.d (.int count)), .v (.d (.int 4)), .ol (y.1.map enR), y.2.1, y.2.2.1, y.2.2.2.1, y.2.2.2.2, .x, .x]
theorem drawn_turn {ns : List Int} (hn : Nums ns 160) {many count : Nat} (hm : 1 ≤ many ∧ many ≤ 5) {k' : Int} (hk : 0 ≤ k' ∧ k' ≤ 5) {rs : List Rw} (hl : (rs.map enR).length < 1000000) {z7 z8 z9 : Sv} : ∃ r z7' z8' z9', (r.ws.length = many ∧ (∀ a ∈ r.ws, a.natAbs < 2 ^ 4) ∧ r.b.natAbs < 2 ^ 4) ∧ (xb_law_drawn_1 T).ev (E9 ns many count (rs, .v (.d (.int k')), z7, z8, z9)) = .nx (E9 ns many count (rs ++ [r], .v (.d (.int k')), z7', z8', z9')) := by
  obtain ⟨v1, -, a1, b1, c1⟩ := hn.at_ (i := 20 + k' % 16) (by omega) (by omega)
  obtain ⟨rl, hr⟩ := pickR (v1 / 3)
  have hix : ∀ j : Nat, atI (ns.map PyData.int) (20 + 16 + (k' * (many : Int) + (0 + (j : Int))) % 60) = some (.int (ns.getD (20 + 16 + (k' * (many : Int) + (0 + (j : Int))) % 60).toNat 0)) := by
    intro j
    generalize k' * (many : Int) + (0 + (j : Int)) = e
    have h1 : (20 + 16 + e % 60).toNat < ns.length := by rw [hn.len]; omega
    refine atI_in (by omega) ?_
    rw [List.getD_eq_getElem?_getD, List.getElem?_eq_getElem h1]
    rfl
  have hlc : lcL (K := K) (.name 10) .yes (.op O2.sub (.op O2.mod (.bi Bi.int (.cons false (.op O2.add (.op O2.ixL (.var 0) (.op O2.add (.op O2.add (.var 1) (.int 16)) (.op O2.mod (.bi Bi.int (.cons false (.op O2.add (.op O2.mul (.var 6) (.var 2)) (.var 10)) .nil)) (.int 60)))) (.op O2.mul (.int 31) (.var 6))) .nil)) (.op O2.add (.op O2.mul (.int 2) (.var 4)) (.int 1))) (.var 4)) [.v (.d (.list (ns.map .int))), .v (.d (.int 20)), .v (.d (.int many)), .v (.d (.int count)), .v (.d (.int 4)), .ol (rs.map enR), .v (.d (.int k')), .v (.d (.int v1)), z8, z9, .x, .x] (irange 0 many) = some (((List.range many).map fun j : Nat => (ns.getD (20 + 16 + (k' * (many : Int) + (0 + (j : Int))) % 60).toNat 0 + 31 * k') % (2 * 4 + 1) - 4).map .int) := by
    rw [List.map_map]
    refine lcL_map (en := fun k : Nat => PyData.int (0 + (k : Int))) (xs := List.range many) fun j _ => ?_
    have h1 := hix j
    show lcOne _ _ _ _ _ = some (some (PyData.int ((ns.getD (20 + 16 + (k' * (many : Int) + (0 + (j : Int))) % 60).toNat 0 + 31 * k') % (2 * 4 + 1) - 4)))
    generalize ns.getD (20 + 16 + (k' * (many : Int) + (0 + (j : Int))) % 60).toNat 0 = e at h1 ⊢
    generalize (0 + (j : Int)) = j' at h1 ⊢
    have cm : CMulU k' (many : Int) := mul_r (by omega)
    rw [lcOne_eq]
    clear hix hr a1 b1 c1 hl hn hm hk
    walk_at "evh"
  obtain ⟨ls, hls⟩ : ∃ ls, ls = (List.range many).map fun j : Nat => (ns.getD (20 + 16 + (k' * (many : Int) + (0 + (j : Int))) % 60).toNat 0 + 31 * k') % (2 * 4 + 1) - 4 := ⟨_, rfl⟩
  rw [← hls] at hlc
  have l1 : ls.length = many := by rw [hls]; simp
  have l2 : ∀ a ∈ ls, -4 ≤ a ∧ a ≤ 4 := by
    intro a ha
    rw [hls] at ha
    obtain ⟨j, -, rfl⟩ := List.mem_map.mp ha
    generalize ns.getD _ 0 + 31 * k' = e
    omega
  have hg : ((XG.name 10 : XG K).T.all fun i => decide (i ∈ [10])) = true := rfl
  have hg2 : ((XG.name 11 : XG K).T.all fun i => decide (i ∈ [11])) = true := rfl
  have hrg : ((many : Nat) : Int).natAbs < 4611686018427387904 := by omega
  have ht : ((many : Nat) : Int).toNat = many := rfl
  have hlr : (irange 0 many).length ≤ 100000 := by rw [irange_len]; omega
  have hll : (ls.map PyData.int).length ≤ 100000 := by rw [List.length_map]; omega
  have p4 : (2 : Nat) ^ 4 = 16 := rfl
  have bb : (v1 / 15 % (3 * 4) - 4).natAbs < 2 ^ 4 := by omega
  have fin : ∀ l : List Int, (XS.seq (.set 9 (.op O2.ixL (XN.lst (.cons false (.str (PySem.Str.ofString "least")) (.cons false (.str (PySem.Str.ofString "most")) (.cons false (.str (PySem.Str.ofString "least")) (.cons false (.str (PySem.Str.ofString "equal")) (.cons false (.str (PySem.Str.ofString "most")) .nil)))))).e (.op O2.mod (.op O2.div (.var 7) (.int 3)) (.int 5))))
    (.app 5 (.tup (.cons false (.var 8) (.cons false (.var 9) (.cons false (.op O2.sub (.op O2.mod (.bi Bi.int (.cons false (.op O2.div (.var 7) (.int 15)) .nil)) (.op O2.mul (.int 3) (.var 4))) (.var 4)) .nil))))) : XS K).ev (E9 ns many count (rs, .v (.d (.int k')), .v (.d (.int v1)), .v (.d (.list (l.map .int))), z9)) = .nx (E9 ns many count (rs ++ [⟨l, rl, v1 / 15 % (3 * 4) - 4⟩], .v (.d (.int k')), .v (.d (.int v1)), .v (.d (.list (l.map .int))), .v (.d (.str rl.s)))) := by
    intro l
    unfold E9
    show _ = Oc.nx [.v (.d (.list (ns.map .int))), .v (.d (.int 20)), .v (.d (.int many)), .v (.d (.int count)), .v (.d (.int 4)), .ol ((rs ++ [(⟨l, rl, v1 / 15 % (3 * 4) - 4⟩ : Rw)]).map enR), .v (.d (.int k')), .v (.d (.int v1)), .v (.d (.list (l.map .int))), .v (.d (.str rl.s)), .x, .x]
    rw [List.map_append]
    clear hix a1 b1 c1 hn hm hk hls hlc l1 l2 hg hg2 hrg ht hlr hll p4 bb
    walk_at "evh"
    rfl
  have s1 : ∀ {t : XS K} {o : Oc}, t.ev (E9 ns many count (rs, .v (.d (.int k')), .v (.d (.int v1)), .v (.d (.list (ls.map .int))), z9)) = o → (XS.seq (.set 7 (.bi Bi.int (.cons false (.op O2.ixL (.var 0) (.op O2.add (.var 1) (.op O2.mod (.bi Bi.int (.cons false (.var 6) .nil)) (.int 16)))) .nil)))
    (.seq (.set 8 (XN.lc (.range1 (.cons false (.var 2) .nil)) (.name 10) .yes (.op O2.sub (.op O2.mod (.bi Bi.int (.cons false (.op O2.add (.op O2.ixL (.var 0) (.op O2.add (.op O2.add (.var 1) (.int 16)) (.op O2.mod (.bi Bi.int (.cons false (.op O2.add (.op O2.mul (.var 6) (.var 2)) (.var 10)) .nil)) (.int 60)))) (.op O2.mul (.int 31) (.var 6))) .nil)) (.op O2.add (.op O2.mul (.int 2) (.var 4)) (.int 1))) (.var 4)) [10]).e) t)).ev (E9 ns many count (rs, .v (.d (.int k')), z7, z8, z9)) = o := by
    intro t o ho
    refine run_nx (st1 := E9 ns many count (rs, .v (.d (.int k')), .v (.d (.int v1)), z8, z9)) ?_ (run_nx ?_ ho)
    · unfold E9
      clear ho fin hix hlc hr hls l1 l2 hg hg2 hrg ht hlr hll p4 bb hn hm hk b1 c1 hl
      walk_at "evh"
    · unfold E9
      clear ho fin hix hr hls l1 l2 hg2 hll p4 bb hn hm hk b1 c1 hl a1
      walk_at "evh"
  unfold xb_law_drawn_1
  by_cases c : v1 % 3 = 0
  · have d1 : decide (v1 % 3 = 0) = true := decide_eq_true c
    have hab : lcL (K := K) (.name 11) .yes (.bi Bi.abs (.cons false (.var 11) .nil)) [.v (.d (.list (ns.map .int))), .v (.d (.int 20)), .v (.d (.int many)), .v (.d (.int count)), .v (.d (.int 4)), .ol (rs.map enR), .v (.d (.int k')), .v (.d (.int v1)), .v (.d (.list (ls.map .int))), z9, .x, .x] (ls.map .int) = some ((ls.map fun n => if n < 0 then -n else n).map .int) := by
      rw [List.map_map]
      refine lcL_map fun x _ => ?_
      rw [lcOne_eq]
      clear s1 fin hix hlc hr hls l1 l2 hg hg2 hrg ht hlr hll p4 bb hn hm hk b1 c1 hl d1 c a1
      walk_at "ev"
      rfl
    refine ⟨⟨ls.map fun n => if n < 0 then -n else n, rl, v1 / 15 % (3 * 4) - 4⟩, _, _, _, ⟨by rw [List.length_map]; exact l1, fun a ha => ?_, bb⟩, s1 (run_nx (ite_t ?_ ?_) (fin _))⟩
    · obtain ⟨x, hx, rfl⟩ := List.mem_map.mp ha
      have := l2 x hx
      show (if x < 0 then -x else x).natAbs < 2 ^ 4
      split <;> omega
    · unfold E9
      clear s1 fin hix hlc hr hls l1 l2 hg hg2 hrg ht hlr hll p4 bb hn hm hk b1 c1 hl c a1 hab
      walk_at "evh"
    · unfold E9
      clear s1 fin hix hlc hr hls l1 l2 hg hrg ht hlr p4 bb hn hm hk b1 c1 hl c a1 d1
      walk_at "evh"
  · have d1 : decide (v1 % 3 = 0) = false := decide_eq_false c
    refine ⟨⟨ls, rl, v1 / 15 % (3 * 4) - 4⟩, _, _, _, ⟨l1, fun a ha => by have := l2 a ha; omega, bb⟩, s1 (run_nx (ite_f ?_ rfl) (fin _))⟩
    unfold E9
    clear s1 fin hix hlc hr hls l1 l2 hg hg2 hrg ht hlr hll p4 bb hn hm hk b1 c1 hl c a1
    walk_at "evh"
theorem f_drawn {ns : List Int} (hn : Nums ns 160) {many count : Nat} (hm : 1 ≤ many ∧ many ≤ 5) (hc : count ≤ 6) : ∃ rs, RowsP rs many ∧ rs.length = count ∧ (fn_law_drawn T).f [nv ns, iv 20, iv many, iv count, iv 4] = .ok (.d (.list (rs.map enR))) := by
  obtain ⟨⟨rs, z6, z7, z8, z9⟩, hP, hl⟩ := lp_ex (K := K) (g := .name 6) (s := xb_law_drawn_1 T) (en := fun k : Nat => PyData.int (0 + (k : Int))) (xs := List.range count) (E9 ns many count) (fun pre y => y.1.length = pre.length ∧ ∀ r ∈ y.1, r.ws.length = many ∧ (∀ a ∈ r.ws, a.natAbs < 2 ^ 4) ∧ r.b.natAbs < 2 ^ 4) (x0 := ([], .x, .x, .x, .x)) ⟨rfl, fun _ z => nomatch z⟩ (by
    rintro pre k post ⟨rs, z6, z7, z8, z9⟩ e ⟨h1, h2⟩
    have h1 : rs.length = pre.length := h1
    have hlen := le_len e
    rw [List.length_range] at hlen
    have hk : k < count := List.mem_range.mp (by rw [e]; simp)
    obtain ⟨r, z7', z8', z9', hr, h⟩ := drawn_turn T hn (count := count) hm (k' := 0 + (k : Int)) (by omega) (rs := rs) (by rw [List.length_map]; omega) (z7 := z7) (z8 := z8) (z9 := z9)
    refine ⟨(rs ++ [r], .v (.d (.int (0 + (k : Int)))), z7', z8', z9'), ⟨by rw [List.length_append, List.length_append, h1]; rfl, fun x hx => ?_⟩, _, by unfold E9; walk_at "ev", .inl h⟩
    rcases List.mem_append.mp hx with z | z
    · exact h2 x z
    · rw [List.mem_singleton.mp z]; exact hr)
  obtain ⟨h1, h2⟩ := hP
  have h1 : rs.length = (List.range count).length := h1
  rw [List.length_range] at h1
  refine ⟨rs, ⟨fun r hr => (h2 r hr).1, fun r hr => (h2 r hr).2.1, fun r hr => (h2 r hr).2.2, by omega⟩, h1, ?_⟩
  have hrg : ((count : Nat) : Int).natAbs < 4611686018427387904 := by omega
  have ht : ((count : Nat) : Int).toNat = count := rfl
  rw [fnf_law_drawn]
  refine runX_of ?_
  unfold xs_law_drawn nv
  refine run_nx (st1 := E9 ns many count ([], .x, .x, .x, .x)) ?_ (run_nx (for_nx (ds := irange 0 count) ?_ hl) ?_)
  · unfold E9
    walk_at "ev"
  · unfold E9
    clear hl h1 h2 hn hm hc
    walk_at "evh"
  · unfold E9
    walk_at "ev"
end Q

set_option Elab.async false
set_option linter.all false
set_option maxRecDepth 100000
set_option maxHeartbeats 4000000
namespace Q
open PySem PySem.Spec PyProof.Rows L2 Z R QF
local macro_rules | `(tactic| walk_at "ds") => `(tactic| first | assumption | decide | omega | exact ⟨by decide, by decide⟩ | exact ⟨by omega, by omega⟩ | exact div_lit ⟨by omega, by omega⟩ | exact mul_r (by omega) | exact mul_l (by omega))
local macro_rules | `(tactic| walk_at "ev") => `(tactic| simp (disch := walk_at "ds") only [bind_ok, bind_ex, bind_no, oc_k, oc_x, oc_n, of_some, of_none, okV_ok, okV_ex, okV_no, bOf_b, iOf_i, asL_l, asS_l, asS_s, lOf_l, var_ev, var_el, var_es, int_ev, bool_ev, non_ev, str_ev, av_f, av_t, op_ev, op_el, op_es, opN_ev, e_ev, e_el, e_es, neg_ev, bv_eq, iv_eq, andV_ev, orV_ev, notV_ev, ife_ev, ife_el, ife_es, chain_ev, inK_ev, setfld_ev, tup_ev, dev_eq, avD_nil, avD_cons, lst_ev, anil_ev, acons_ev, bi_ev, biN_ev, call_ev, call_el, call_es, callN_ev, meth_ev, meth_el, meth_es, methN_ev, make_ev, fld_ev, fld_el, fld_es, test_ev, B_ev, and_ev, or_ev, not_ev, truthL_ev, ifeT_ev, yes_ev, onone_ev, osome_ev, sl_ev, slS_ev, lend_ev, blank_ev, ilist_ev, irng1_ev, irng2_ev, avI1_i, avI2_i, ienum_ev, izip_ev, gname_ev, gnil_ev, gcons_ev, gtup_ev, glst_ev, lc_ev, nx_ev, brk_ev, cnt_ev, seq_ev, set_ev, setN_ev, asg_ev, par_ev, aug_ev, seti_ev, app_ev, ite_ev, ret_ev, retN_ev, retO_ev, retV_ev, drop_ev, frz_ev, for_ev, lp_nil, raise_ev, try_ev, add_ka, add_kb, add_f, sub_ka, sub_kb, sub_f, band_ka, band_kb, band_f, lt_ka, lt_kb, lt_f, le_ka, le_kb, le_f, gt_ka, gt_kb, gt_f, ge_ka, ge_kb, ge_f, mul_ka, mul_kb, div_ka, div_kb, divU_ka, divU_kb, mod_ka, mod_kb, pow_ka, pow_kb, shl_ka, shl_kb, shr_ka, shr_kb, eq_ka, eq_kb, ne_ka, ne_kb, eqD_ka, eqD_kb, neD_ka, neD_kb, isN_ka, isN_kb, notN_ka, notN_kb, isB_ka, isB_kb, notB_ka, notB_kb, ixS_ka, ixS_kb, ixT_ka, ixT_kb, neL_ka, neL_kb, ixL_ka, ixL_kb, inL_ka, inL_kb, notInL_ka, notInL_kb, cat_ka, cat_kb, rep_ka, rep_kb, eq_i, eq_s, ne_i, ne_s, isB_f, notB_f, isN_f, notN_f, ixL_f, ixT_f, ixS_f, len_f, lenS_f, abs_f, min2_f, max2_f, int_f, intB_f, gcd_f, listN_f, runX_eq, res_rt, res_ro, res_nx, res_xc, at0, at1, at2, rng_if, lcL_nil, mul_f, div_f, divU_f, mod_f, pow_f, shl_f, shr_f, cat_f, lcm_f, repr_f, List.getElem?_cons_zero, List.getElem?_cons_succ, List.set_cons_zero, List.set_cons_succ, List.length_cons, List.length_nil, Nat.reduceAdd, Nat.reduceLT, Nat.reduceLeDiff, Nat.reduceEqDiff, if_true, if_false, Option.map_some, Option.map_none, Option.bind_some, Option.bind_none, reduceIte, decide_true, decide_false, R.start, avS, R.frz, at0, at1, at2, allXb, Sv.isX, List.all_cons, List.all_nil, Bool.and_true, Bool.true_and, Bool.and_false, Bool.false_and, List.flatten_cons, List.map_cons, List.map_nil, List.cons_append, List.nil_append, List.replicate_succ, List.replicate_zero, Bool.not_true, Bool.not_false, Nat.reduceMul, Nat.reduceSub, Nat.zero_add, and_self, and_true, true_and, and_false, false_and])
local macro_rules | `(tactic| walk_at "evh") => `(tactic| simp (disch := walk_at "ds") only [bind_ok, bind_ex, bind_no, oc_k, oc_x, oc_n, of_some, of_none, okV_ok, okV_ex, okV_no, bOf_b, iOf_i, asL_l, asS_l, asS_s, lOf_l, var_ev, var_el, var_es, int_ev, bool_ev, non_ev, str_ev, av_f, av_t, op_ev, op_el, op_es, opN_ev, e_ev, e_el, e_es, neg_ev, bv_eq, iv_eq, andV_ev, orV_ev, notV_ev, ife_ev, ife_el, ife_es, chain_ev, inK_ev, setfld_ev, tup_ev, dev_eq, avD_nil, avD_cons, lst_ev, anil_ev, acons_ev, bi_ev, biN_ev, call_ev, call_el, call_es, callN_ev, meth_ev, meth_el, meth_es, methN_ev, make_ev, fld_ev, fld_el, fld_es, test_ev, B_ev, and_ev, or_ev, not_ev, truthL_ev, ifeT_ev, yes_ev, onone_ev, osome_ev, sl_ev, slS_ev, lend_ev, blank_ev, ilist_ev, irng1_ev, irng2_ev, avI1_i, avI2_i, ienum_ev, izip_ev, gname_ev, gnil_ev, gcons_ev, gtup_ev, glst_ev, lc_ev, nx_ev, brk_ev, cnt_ev, seq_ev, set_ev, setN_ev, asg_ev, par_ev, aug_ev, seti_ev, app_ev, ite_ev, ret_ev, retN_ev, retO_ev, retV_ev, drop_ev, frz_ev, for_ev, lp_nil, raise_ev, try_ev, add_ka, add_kb, add_f, sub_ka, sub_kb, sub_f, band_ka, band_kb, band_f, lt_ka, lt_kb, lt_f, le_ka, le_kb, le_f, gt_ka, gt_kb, gt_f, ge_ka, ge_kb, ge_f, mul_ka, mul_kb, div_ka, div_kb, divU_ka, divU_kb, mod_ka, mod_kb, pow_ka, pow_kb, shl_ka, shl_kb, shr_ka, shr_kb, eq_ka, eq_kb, ne_ka, ne_kb, eqD_ka, eqD_kb, neD_ka, neD_kb, isN_ka, isN_kb, notN_ka, notN_kb, isB_ka, isB_kb, notB_ka, notB_kb, ixS_ka, ixS_kb, ixT_ka, ixT_kb, neL_ka, neL_kb, ixL_ka, ixL_kb, inL_ka, inL_kb, notInL_ka, notInL_kb, cat_ka, cat_kb, rep_ka, rep_kb, eq_i, eq_s, ne_i, ne_s, isB_f, notB_f, isN_f, notN_f, ixL_f, ixT_f, ixS_f, len_f, lenS_f, abs_f, min2_f, max2_f, int_f, intB_f, gcd_f, listN_f, runX_eq, res_rt, res_ro, res_nx, res_xc, at0, at1, at2, rng_if, lcL_nil, mul_f, div_f, divU_f, mod_f, pow_f, shl_f, shr_f, cat_f, lcm_f, repr_f, List.getElem?_cons_zero, List.getElem?_cons_succ, List.set_cons_zero, List.set_cons_succ, List.length_cons, List.length_nil, Nat.reduceAdd, Nat.reduceLT, Nat.reduceLeDiff, Nat.reduceEqDiff, if_true, if_false, Option.map_some, Option.map_none, Option.bind_some, Option.bind_none, reduceIte, decide_true, decide_false, R.start, avS, R.frz, at0, at1, at2, allXb, Sv.isX, List.all_cons, List.all_nil, Bool.and_true, Bool.true_and, Bool.and_false, Bool.false_and, List.flatten_cons, List.map_cons, List.map_nil, List.cons_append, List.nil_append, List.replicate_succ, List.replicate_zero, Bool.not_true, Bool.not_false, Nat.reduceMul, Nat.reduceSub, Nat.zero_add, and_self, and_true, true_and, and_false, false_and, *])
variable {K : PySem.W.Frag} {mg : Str → Option Value} (T : Tx K mg)
theorem sum_bd {m : Nat} : ∀ l : List Int, (∀ v ∈ l, v.natAbs < 2 ^ m) → l.sum.natAbs < 2 ^ (m + l.length)
  | [], _ => by show (0 : Int).natAbs < _; exact Nat.two_pow_pos _
  | v :: l, h => by
    have h1 := h v (List.mem_cons_self ..)
    have h2 := sum_bd l fun x hx => h x (List.mem_cons_of_mem _ hx)
    have h3 : (2 : Nat) ^ m ≤ 2 ^ (m + l.length) := Nat.pow_le_pow_right (by decide) (by omega)
    have h4 : (2 : Nat) ^ (m + (v :: l).length) = 2 * 2 ^ (m + l.length) := by rw [List.length_cons, ← Nat.add_assoc, Nat.pow_succ]; omega
    rw [List.sum_cons, h4]
    have := Int.natAbs_add_le v l.sum
    omega
theorem dot_bd {m k : Nat} {as bs : List Int} (ha : ∀ a ∈ as, a.natAbs < 2 ^ k) (hb : ∀ b ∈ bs, b.natAbs < 2 ^ m) : (dotF as bs).natAbs < 2 ^ (k + m + bs.length) := by
  have h := sum_bd (m := k + m) (List.zipWith (fun a b => a * b) as bs) (by
    intro v hv
    rw [show List.zipWith (fun a b => a * b) as bs = (as.zip bs).map fun p => p.1 * p.2 from (List.map_zip_eq_zipWith (f := fun p : Int × Int => p.1 * p.2)).symm] at hv
    obtain ⟨p, hp, rfl⟩ := List.mem_map.mp hv
    have h := List.of_mem_zip (show (p.1, p.2) ∈ _ from hp)
    exact mulB (ha _ h.1) (hb _ h.2))
  refine Nat.lt_of_lt_of_le h (Nat.pow_le_pow_right (by decide) ?_)
  rw [List.length_zipWith]
  omega
theorem wF_bd {ns : List Int} {ws : List (Int × Int)} (ha : ∀ a ∈ ns, a.natAbs < 2 ^ 4) (W : Ws ws) : IsF (wF ns ws) ∧ (wF ns ws).1.natAbs < 2 ^ 37 ∧ (wF ns ws).2.natAbs < 2 ^ 22 := by
  have F := W.fs
  have hl := W.len
  have p := lcmF_ne F.is
  have h0 : lcmF ws ≠ 0 := by omega
  have b1 := dot_bd ha (numF_bd F)
  have b2 := lcm_bd (b := 3) ws 1 1 (by decide) F.den
  have e : (numF ws (lcmF ws)).length = ws.length := by unfold numF; rw [List.length_map]
  rw [e] at b1
  refine ⟨low_is h0, Nat.lt_of_le_of_lt (low_bd1 h0) (Nat.lt_of_lt_of_le b1 (Nat.pow_le_pow_right (by decide) (by omega))), Nat.lt_of_le_of_lt (low_bd2 h0) (Nat.lt_of_lt_of_le b2 (Nat.pow_le_pow_right (by decide) (by omega)))⟩
def okB (r : Rw) (xs : List (Int × Int)) : Bool := match r.r with
  | .least => !decide ((wF r.ws xs).1 * 1 < r.b * (wF r.ws xs).2)
  | .most => !decide (r.b * (wF r.ws xs).2 < (wF r.ws xs).1 * 1)
  | .equal => decide (wF r.ws xs = (r.b, 1))
theorem f_fits {r : Rw} {xs : List (Int × Int)} (h : r.ws.length = xs.length) (ha : ∀ a ∈ r.ws, a.natAbs < 2 ^ 4) (hb : r.b.natAbs < 2 ^ 4) (W : Ws xs) : (fn_law_fits T).f [.v (.d (enR r)), fvs xs] = .ok (.d (.bool (okB r xs))) := by
  have h1 := f_weighted T h ha W
  have m1 := fnm_law_weighted T
  have m2 := fnm_law_less T
  obtain ⟨-, n1, n2⟩ := wF_bd ha W
  have r1 := relL (K := K) r.r
  have r2 := relM (K := K) r.r
  have s1 : Sz (wF r.ws xs) (r.b, 1) 37 22 1 := ⟨n1, Nat.lt_of_lt_of_le hb (Nat.pow_le_pow_right (by decide) (by decide)), n2, (by show (1 : Int).natAbs < _; decide), by decide, by decide⟩
  have s2 : Sz (r.b, 1) (wF r.ws xs) 37 1 22 := ⟨Nat.lt_of_lt_of_le hb (Nat.pow_le_pow_right (by decide) (by decide)), n1, (by show (1 : Int).natAbs < _; decide), n2, by decide, by decide⟩
  have l1 := f_law_less T s1
  have l2 := f_law_less T s2
  have l3 := eqvfd (K := K) (x := wF r.ws xs) (y := (r.b, 1))
  replace l1 : (fn_law_less T).f [fv (wF r.ws xs), fv (r.b, 1)] = .ok (.d (.bool (decide ((wF r.ws xs).1 * 1 < r.b * (wF r.ws xs).2)))) := l1
  replace l2 : (fn_law_less T).f [fv (r.b, 1), fv (wF r.ws xs)] = .ok (.d (.bool (decide (r.b * (wF r.ws xs).2 < (wF r.ws xs).1 * 1)))) := l2
  rw [fnf_law_fits]
  refine runX_of ?_
  unfold okB
  generalize wF r.ws xs = w at *
  unfold xs_law_fits enR
  unfold fvs fv at *
  clear s1 s2 n1 n2 h ha hb W
  refine run_nx (st1 := [.v (.d (enR r)), .v (.d (.list (xs.map fd))), .v (.d (.list (r.ws.map .int))), .v (.d (.str r.r.s)), .v (.d (.int r.b)), .x]) (by
    unfold enR
    clear l1 l2 l3 r1 r2 h1
    walk_at "ev") (run_nx (st1 := [.v (.d (enR r)), .v (.d (.list (xs.map fd))), .v (.d (.list (r.ws.map .int))), .v (.d (.str r.r.s)), .v (.d (.int r.b)), .v (.d (fd w))]) (by
    clear l1 l2 l3 r1 r2
    walk_at "evh") ?_)
  clear h1 m1
  generalize enR r = R0
  generalize r.b = b at *
  generalize r.r = R at *
  cases R
  · have e : Rel.isL .least = true := rfl
    rw [e] at r1
    clear e r2 l2 l3
    show _ = Oc.rt (.d (.bool (!decide (w.1 * 1 < b * w.2))))
    walk_at "evh"
  · have e : Rel.isL .most = false := rfl
    have e2 : Rel.isM .most = true := rfl
    rw [e] at r1
    rw [e2] at r2
    clear e e2 l1 l3
    show _ = Oc.rt (.d (.bool (!decide (b * w.2 < w.1 * 1))))
    walk_at "evh"
  · have e : Rel.isL .equal = false := rfl
    have e2 : Rel.isM .equal = false := rfl
    rw [e] at r1
    rw [e2] at r2
    clear e e2 l1 l2
    show _ = Oc.rt (.d (.bool (decide (w = (b, 1)))))
    walk_at "evh"
theorem f_solution {rs : List Rw} {xs : List (Int × Int)} {m : Nat} (R : RowsP rs m) (hx : xs.length = m) (W : Ws xs) (h0 : ∀ x ∈ xs, 0 ≤ x.1) : (fn_law_solution T).f [iv m, .v (.d (.list (rs.map enR))), fvs xs] = .ok (.d (.bool (rs.all fun r => okB r xs))) := by
  have q2 : ((xs.map fd).length : Int) = (m : Nat) := by rw [List.length_map, hx]
  have d1 : decide ((m : Int) = (m : Int)) = true := decide_eq_true rfl
  have hl1 : (rs.map enR).length ≤ 100000 := by rw [List.length_map]; have := R.cnt; omega
  have hl2 : (xs.map fd).length ≤ 100000 := by rw [List.length_map]; have := W.len; omega
  have hg : ((XG.name 4 : XG K).T.all fun i => decide (i ∈ [4])) = true := rfl
  have hg2 : ((XG.name 3 : XG K).T.all fun i => decide (i ∈ [3])) = true := rfl
  have hc1 : lcL (K := K) (.name 4) (.test (.op O2.lt (.op O2.ixT (.var 4) (.int 0)) (.int 0))) (.int 1) [.v (.d (.int m)), .v (.d (.list (rs.map enR))), .v (.d (.list (xs.map fd))), .x, .x] (xs.map fd) = some [] := by
    have := lcL_filter (K := K) (g := .name 4) (t := .test (.op O2.lt (.op O2.ixT (.var 4) (.int 0)) (.int 0))) (e := .int 1) (st := [.v (.d (.int m)), .v (.d (.list (rs.map enR))), .v (.d (.list (xs.map fd))), .x, .x]) (en := fd) (f := fun _ => .int 1) (p := fun _ => false) (xs := xs) (fun x hx => by
      have d : decide (x.1 < 0) = false := decide_eq_false (by have := h0 x hx; omega)
      rw [lcOne_eq, if_neg Bool.false_ne_true]
      clear q2 d1 hl1 hl2 hg hg2 hx R W h0
      walk_at "evh")
    rw [this]
    have : ∀ l : List (Int × Int), l.filter (fun _ => false) = [] := fun l => by induction l <;> simp_all
    rw [this]
    rfl
  have hc2 : lcL (K := K) (.name 3) .yes (.call (fn_law_fits T) (fno_law_fits T) (.cons false (.var 3) (.cons false (.var 2) .nil))) [.v (.d (.int m)), .v (.d (.list (rs.map enR))), .v (.d (.list (xs.map fd))), .x, .x] (rs.map enR) = some ((rs.map fun r => okB r xs).map .bool) := by
    rw [List.map_map]
    refine lcL_map fun r hr => ?_
    have h1 := f_fits T (r := r) (xs := xs) (by rw [R.len r hr, hx]) (R.bd r hr) (R.bb r hr) W
    have m1 := fnm_law_fits T
    rw [lcOne_eq]
    unfold fvs at h1
    clear q2 d1 hl1 hl2 hg hg2 hx R W h0 hc1 hr
    walk_at "evh"
    rfl
  have ha := all_f (K := K) (ns := rs.map fun r => okB r xs)
  rw [List.all_map] at ha
  replace ha : (Bi.all : Bi K).f [.l ((rs.map fun r => okB r xs).map .bool)] = some (.d (.bool (rs.all fun r => okB r xs))) := ha
  have d2 : decide ((0 : Int) < 0) = false := rfl
  rw [fnf_law_solution]
  refine runX_of ?_
  unfold xs_law_solution fvs
  clear R W h0 hx
  refine run_nx (ite_f ?_ rfl) ?_
  · clear hc2 ha hg2 hl1
    walk_at "evh"
    try rfl
  · clear hc1 q2 d1 d2 hg hl2
    walk_at "evh"
end Q

set_option Elab.async false
set_option linter.all false
set_option maxRecDepth 100000
set_option maxHeartbeats 4000000
namespace Q
open PySem PySem.Spec PyProof.Rows L2 Z R QF
/-! weak duality -/
theorem sum_scale {f g : Nat → Int} {c d : Int} : ∀ l : List Nat, (∀ j ∈ l, f j * c = d * g j) → (l.map f).sum * c = d * (l.map g).sum
  | [], _ => by simp
  | j :: l, h => by
    rw [List.map_cons, List.map_cons, List.sum_cons, List.sum_cons, Int.add_mul, Int.mul_add, h j (List.mem_cons_self ..), sum_scale l fun x hx => h x (List.mem_cons_of_mem _ hx)]
theorem sum_add2 {f g : Nat → Int} : ∀ l : List Nat, (l.map fun j => f j + g j).sum = (l.map f).sum + (l.map g).sum
  | [] => by simp
  | j :: l => by
    simp only [List.map_cons, List.sum_cons, sum_add2 l]
    omega
theorem dot_range {as bs : List Int} {m : Nat} (h1 : as.length = m) (h2 : bs.length = m) : dotF as bs = ((List.range m).map fun j => as.getD j 0 * bs.getD j 0).sum := by
  unfold dotF
  congr 1
  refine List.ext_getElem (by simp [h1, h2]) ?_
  intro i a b
  have i0 : i < m := by simpa using b
  have i1 : i < as.length := by omega
  have i2 : i < bs.length := by omega
  simp [List.getElem?_eq_getElem i1, List.getElem?_eq_getElem i2]
/-- the loads paid, by rows -/
theorem swap {m : Nat} {X : List Int} (hX : X.length = m) : ∀ (rs : List Rw) (W : List Int), (∀ r ∈ rs, r.ws.length = m) → ((List.range m).map fun j => dotF (col rs j) W * X.getD j 0).sum = ((rs.zip W).map fun p => p.2 * dotF p.1.ws X).sum
  | [], W, _ => by
    have : ∀ l : List Nat, (l.map fun j => dotF (col [] j) W * X.getD j 0).sum = 0 := by
      intro l
      have := sum_scale (f := fun j => dotF (col [] j) W * X.getD j 0) (g := fun _ => 0) (c := 1) (d := 0) l (fun j _ => by show dotF [] W * _ * 1 = _; unfold dotF; simp)
      simpa using this
    rw [this]
    rfl
  | r :: rs, [], _ => by
    have : ∀ l : List Nat, (l.map fun j => dotF (col (r :: rs) j) [] * X.getD j 0).sum = 0 := by
      intro l
      have := sum_scale (f := fun j => dotF (col (r :: rs) j) [] * X.getD j 0) (g := fun _ => 0) (c := 1) (d := 0) l (fun j _ => by show dotF (col (r :: rs) j) [] * _ * 1 = _; unfold dotF; simp)
      simpa using this
    rw [this]
    rfl
  | r :: rs, w :: W, h => by
    have ih := swap hX rs W fun x hx => h x (List.mem_cons_of_mem _ hx)
    have e : ∀ j, dotF (col (r :: rs) j) (w :: W) * X.getD j 0 = r.ws.getD j 0 * w * X.getD j 0 + dotF (col rs j) W * X.getD j 0 := by
      intro j
      have : dotF (col (r :: rs) j) (w :: W) = r.ws.getD j 0 * w + dotF (col rs j) W := rfl
      rw [this, Int.add_mul]
    simp only [e]
    rw [sum_add2, ih]
    have e2 := sum_scale (f := fun j => r.ws.getD j 0 * w * X.getD j 0) (g := fun j => r.ws.getD j 0 * X.getD j 0) (c := 1) (d := w) (List.range m) (fun j _ => by grind)
    rw [Int.mul_one, ← dot_range (h r (List.mem_cons_self ..)) hX] at e2
    rw [e2]
    rfl
theorem gain_le {X : List Int} {xs ws : List (Int × Int)} {S L : Int} (hS : 0 < S) (hL : 0 < L) : ∀ (rs : List Rw) (ws : List (Int × Int)), (∀ w ∈ ws, 0 < w.2 ∧ w.2 ∣ S) → (∀ p ∈ rs.zip ws, fitB p.1.r p.2 = true) → (∀ r ∈ rs, match r.r with | .least => r.b * L ≤ dotF r.ws X | .most => dotF r.ws X ≤ r.b * L | .equal => dotF r.ws X = r.b * L) → dotF (rs.map fun r => r.b) (numF ws S) * L ≤ ((rs.zip (numF ws S)).map fun p => p.2 * dotF p.1.ws X).sum
  | [], ws, _, _, _ => by show dotF [] _ * L ≤ 0; unfold dotF; simp
  | r :: rs, [], _, _, _ => by show dotF (_ :: _) [] * L ≤ 0; unfold dotF; simp
  | r :: rs, w :: ws, h1, h2, h3 => by
    have ih := gain_le (xs := xs) (ws := ws) hS hL rs ws (fun x hx => h1 x (List.mem_cons_of_mem _ hx)) (fun x hx => h2 x (List.mem_cons_of_mem _ hx)) (fun x hx => h3 x (List.mem_cons_of_mem _ hx))
    obtain ⟨w0, q, hq⟩ := h1 w (List.mem_cons_self ..)
    have f := h2 (r, w) (List.mem_cons_self ..)
    have k := h3 r (List.mem_cons_self ..)
    have e1 : dotF ((r :: rs).map fun r => r.b) (numF (w :: ws) S) = r.b * (w.1 * (S / w.2)) + dotF (rs.map fun r => r.b) (numF ws S) := rfl
    have e2 : (((r :: rs).zip (numF (w :: ws) S)).map fun p => p.2 * dotF p.1.ws X).sum = w.1 * (S / w.2) * dotF r.ws X + ((rs.zip (numF ws S)).map fun p => p.2 * dotF p.1.ws X).sum := rfl
    have e3 : S / w.2 = q := by rw [hq, Int.mul_ediv_cancel_left _ (by omega)]
    have q0 : 0 ≤ q := by rw [← e3]; exact Int.ediv_nonneg (by omega) (by omega)
    rw [e1, e2, e3, Int.add_mul]
    have key : r.b * (w.1 * q) * L ≤ w.1 * q * dotF r.ws X := by
      have f' : fitB r.r w = true := f
      have g : r.b * (w.1 * q) * L = w.1 * q * (r.b * L) := by grind
      rw [g]
      generalize r.r = R at *
      cases R
      · have f1 : decide (0 ≤ w.1) = true := f'
        have f2 := of_decide_eq_true f1
        exact Int.mul_le_mul_of_nonneg_left k (Int.mul_nonneg f2 q0)
      · have f1 : decide (w.1 ≤ 0) = true := f'
        have f2 := of_decide_eq_true f1
        have f3 : w.1 * q ≤ 0 := Int.mul_nonpos_of_nonpos_of_nonneg f2 q0
        have k1 : dotF r.ws X ≤ r.b * L := k
        exact Int.mul_le_mul_of_nonpos_left f3 k1
      · have k1 : dotF r.ws X = r.b * L := k
        rw [k1]
        exact Int.le_refl _
    omega
end Q

set_option Elab.async false
set_option linter.all false
set_option maxRecDepth 100000
set_option maxHeartbeats 4000000
namespace Q
open PySem PySem.Spec PyProof.Rows L2 Z R QF
def tm (p : (Int × Int) × (Int × Int)) : Int × Int := low (p.1.1 * p.2.1) (p.1.2 * p.2.2)
def paidFs (rs : List Rw) (ws xs : List (Int × Int)) (m : Nat) : List (Int × Int) := (((List.range m).map (loadF rs ws)).zip xs).map tm
def paidF (rs : List Rw) (ws xs : List (Int × Int)) (m : Nat) : Int × Int := low (numF (paidFs rs ws xs m) (lcmF (paidFs rs ws xs m))).sum (lcmF (paidFs rs ws xs m))
theorem load_bd {rs : List Rw} {ws : List (Int × Int)} {m j : Nat} (R : RowsP rs m) (hj : j < m) (W : Ws ws) : IsF (loadF rs ws j) ∧ (loadF rs ws j).1.natAbs < 2 ^ 37 ∧ (loadF rs ws j).2.natAbs < 2 ^ 22 := wF_bd (col_bd R hj) W
theorem gain_bd {rs : List Rw} {ws : List (Int × Int)} {m : Nat} (R : RowsP rs m) (W : Ws ws) : IsF (gainF rs ws) ∧ (gainF rs ws).1.natAbs < 2 ^ 37 ∧ (gainF rs ws).2.natAbs < 2 ^ 22 := wF_bd (b_bd R) W
theorem paid_fs {rs : List Rw} {ws xs : List (Int × Int)} {m : Nat} (R : RowsP rs m) (W : Ws ws) (X : Ws xs) (hm : m ≤ 5) : Fs (paidFs rs ws xs m) 41 25 ∧ (paidFs rs ws xs m).length ≤ 5 := by
  have hh : ∀ f ∈ paidFs rs ws xs m, IsF f ∧ f.1.natAbs < 2 ^ 41 ∧ f.2.natAbs < 2 ^ 25 := by
    intro f hf
    obtain ⟨p, hp, rfl⟩ := List.mem_map.mp hf
    have h := List.of_mem_zip (show (p.1, p.2) ∈ _ from hp)
    obtain ⟨j, hj, e⟩ := List.mem_map.mp h.1
    obtain ⟨i1, i2, i3⟩ := load_bd R (List.mem_range.mp hj) W
    rw [e] at i1 i2 i3
    have s := X.sm _ h.2
    have p1 := i1.pos
    have p2 := s.is.pos
    have h0 : p.1.2 * p.2.2 ≠ 0 := Int.mul_ne_zero (by omega) (by omega)
    exact ⟨low_is h0, Nat.lt_of_le_of_lt (low_bd1 h0) (mulB i2 s.num), Nat.lt_of_le_of_lt (low_bd2 h0) (mulB i3 s.den)⟩
  have hl : (paidFs rs ws xs m).length ≤ 5 := by unfold paidFs; rw [List.length_map, List.length_zip, List.length_map, List.length_range]; omega
  exact ⟨⟨fun f h => (hh f h).1, fun f h => (hh f h).2.1, fun f h => (hh f h).2.2, by decide, by omega⟩, hl⟩
theorem paid_bd {rs : List Rw} {ws xs : List (Int × Int)} {m : Nat} (R : RowsP rs m) (W : Ws ws) (X : Ws xs) (hm : m ≤ 5) : IsF (paidF rs ws xs m) ∧ (paidF rs ws xs m).1.natAbs < 2 ^ 180 ∧ (paidF rs ws xs m).2.natAbs < 2 ^ 130 := by
  obtain ⟨F, hl⟩ := paid_fs R W X hm
  have p := lcmF_ne F.is
  have h0 : lcmF (paidFs rs ws xs m) ≠ 0 := by omega
  have b1 := sum_bd _ (numF_bd F)
  have b2 := lcm_bd (b := 25) (paidFs rs ws xs m) 1 1 (by decide) F.den
  have e : (numF (paidFs rs ws xs m) (lcmF (paidFs rs ws xs m))).length = (paidFs rs ws xs m).length := by unfold numF; rw [List.length_map]
  rw [e] at b1
  exact ⟨low_is h0, Nat.lt_of_le_of_lt (low_bd1 h0) (Nat.lt_of_lt_of_le b1 (Nat.pow_le_pow_right (by decide) (by omega))), Nat.lt_of_le_of_lt (low_bd2 h0) (Nat.lt_of_lt_of_le b2 (Nat.pow_le_pow_right (by decide) (by omega)))⟩
theorem ok_row {r : Rw} {xs : List (Int × Int)} (X : Ws xs) (h : okB r xs = true) : match r.r with
    | .least => r.b * lcmF xs ≤ dotF r.ws (numF xs (lcmF xs))
    | .most => dotF r.ws (numF xs (lcmF xs)) ≤ r.b * lcmF xs
    | .equal => dotF r.ws (numF xs (lcmF xs)) = r.b * lcmF xs := by
  have L0 := lcmF_ne X.fs.is
  have hL : lcmF xs ≠ 0 := by omega
  have v : (wF r.ws xs).1 * lcmF xs = dotF r.ws (numF xs (lcmF xs)) * (wF r.ws xs).2 := low_val hL
  have p : 0 < (wF r.ws xs).2 := (low_is hL).pos
  unfold okB at h
  generalize wF r.ws xs = w at *
  generalize dotF r.ws (numF xs (lcmF xs)) = D at *
  generalize lcmF xs = L at *
  generalize r.b = b at *
  generalize r.r = R at *
  cases R
  · have h1 : (!decide (w.1 * 1 < b * w.2)) = true := h
    rw [Bool.not_eq_true', decide_eq_false_iff_not] at h1
    show b * L ≤ D
    refine Int.le_of_mul_le_mul_right ?_ p
    have : b * w.2 * L ≤ w.1 * L := Int.mul_le_mul_of_nonneg_right (by omega) (by omega)
    have e : b * L * w.2 = b * w.2 * L := by grind
    omega
  · have h1 : (!decide (b * w.2 < w.1 * 1)) = true := h
    rw [Bool.not_eq_true', decide_eq_false_iff_not] at h1
    show D ≤ b * L
    refine Int.le_of_mul_le_mul_right ?_ p
    have : w.1 * L ≤ b * w.2 * L := Int.mul_le_mul_of_nonneg_right (by omega) (by omega)
    have e : b * L * w.2 = b * w.2 * L := by grind
    omega
  · have h1 : decide (w = (b, 1)) = true := h
    have h2 := of_decide_eq_true h1
    show D = b * L
    rw [h2] at v
    have v : b * L = D * 1 := v
    omega
theorem paid_sum {rs : List Rw} {ws xs : List (Int × Int)} {m : Nat} (R : RowsP rs m) (W : Ws ws) (X : Ws xs) (hx : xs.length = m) {P : Int} (hP : ∀ f ∈ paidFs rs ws xs m, f.2 ∣ P) : (numF (paidFs rs ws xs m) P).sum * (lcmF ws * lcmF xs) = P * ((List.range m).map fun j => dotF (col rs j) (numF ws (lcmF ws)) * (numF xs (lcmF xs)).getD j 0).sum := by
  have S0 := lcmF_ne W.fs.is
  have l2 := (lcm_fold xs 1 (by decide) fun f hf => (X.fs.is f hf).pos).2.2
  have fr : paidFs rs ws xs m = (List.range m).map fun j => tm (loadF rs ws j, xs.getD j (0, 1)) := by
    unfold paidFs
    refine List.ext_getElem (by simp [hx]) ?_
    intro i h1 h2
    have i2 : i < xs.length := by rw [hx]; simpa using h2
    simp [List.getElem?_eq_getElem i2]
  have e : numF (paidFs rs ws xs m) P = (List.range m).map fun j => (tm (loadF rs ws j, xs.getD j (0, 1))).1 * (P / (tm (loadF rs ws j, xs.getD j (0, 1))).2) := by
    rw [fr]
    unfold numF
    rw [List.map_map]
    rfl
  rw [e]
  refine sum_scale _ fun j hj => ?_
  have hj : j < m := List.mem_range.mp hj
  have hf : tm (loadF rs ws j, xs.getD j (0, 1)) ∈ paidFs rs ws xs m := by rw [fr]; exact List.mem_map.mpr ⟨j, List.mem_range.mpr hj, rfl⟩
  obtain ⟨p', hp⟩ := hP _ hf
  have hjx : j < xs.length := by omega
  have hxm : xs.getD j (0, 1) ∈ xs := (get_at (en := fd) hjx).2
  have hX : (numF xs (lcmF xs)).getD j 0 = (xs.getD j (0, 1)).1 * (lcmF xs / (xs.getD j (0, 1)).2) := by
    unfold numF
    simp [List.getElem?_eq_getElem hjx]
  rw [hX]
  have xp := (X.sm _ hxm).is.pos
  obtain ⟨l', hl⟩ := l2 _ hxm
  have v : (loadF rs ws j).1 * lcmF ws = dotF (col rs j) (numF ws (lcmF ws)) * (loadF rs ws j).2 := low_val (by omega)
  have lp := (load_bd R hj W).1.pos
  replace hl : lcmF xs = (xs.getD j (0, 1)).2 * l' := hl
  generalize xs.getD j (0, 1) = x at *
  generalize loadF rs ws j = ld at *
  generalize dotF (col rs j) (numF ws (lcmF ws)) = D at *
  have h0 : ld.2 * x.2 ≠ 0 := Int.mul_ne_zero (by omega) (by omega)
  have t1 : (tm (ld, x)).1 * (ld.2 * x.2) = ld.1 * x.1 * (tm (ld, x)).2 := low_val h0
  have t2 : 0 < (tm (ld, x)).2 := (low_is h0).pos
  generalize tm (ld, x) = t at *
  have q1 : P / t.2 = p' := by rw [hp, Int.mul_ediv_cancel_left _ (by omega)]
  have q2 : lcmF xs / x.2 = l' := by rw [hl, Int.mul_ediv_cancel_left _ (by omega)]
  rw [q1, q2]
  have v3 : t.1 * x.2 * lcmF ws = D * x.1 * t.2 := by
    refine Int.eq_of_mul_eq_mul_right (show ld.2 ≠ 0 by omega) ?_
    calc t.1 * x.2 * lcmF ws * ld.2 = (t.1 * (ld.2 * x.2)) * lcmF ws := by grind
      _ = ld.1 * x.1 * t.2 * lcmF ws := by rw [t1]
      _ = (ld.1 * lcmF ws) * (x.1 * t.2) := by grind
      _ = D * ld.2 * (x.1 * t.2) := by rw [v]
      _ = D * x.1 * t.2 * ld.2 := by grind
  calc t.1 * p' * (lcmF ws * lcmF xs) = t.1 * p' * (lcmF ws * (x.2 * l')) := by rw [← hl]
    _ = (t.1 * x.2 * lcmF ws) * (p' * l') := by grind
    _ = D * x.1 * t.2 * (p' * l') := by rw [v3]
    _ = (t.2 * p') * (D * (x.1 * l')) := by grind
    _ = P * (D * (x.1 * l')) := by rw [← hp]
theorem paid_ge {rs : List Rw} {ws xs : List (Int × Int)} {m : Nat} (R : RowsP rs m) (hm : m ≤ 5) (W : Ws ws) (X : Ws xs) (hx : xs.length = m) (h1 : fitsB rs ws = true) (h2 : (rs.all fun r => okB r xs) = true) : ¬ (paidF rs ws xs m).1 * (gainF rs ws).2 < (gainF rs ws).1 * (paidF rs ws xs m).2 := by
  have F := (paid_fs R W X hm).1
  have S0 := lcmF_ne W.fs.is
  have L0 := lcmF_ne X.fs.is
  have P0 := lcmF_ne F.is
  have l1 := (lcm_fold ws 1 (by decide) fun f hf => (W.fs.is f hf).pos).2.2
  have l3 := (lcm_fold (paidFs rs ws xs m) 1 (by decide) fun f hf => (F.is f hf).pos).2.2
  have s1 := paid_sum R W X hx (P := lcmF (paidFs rs ws xs m)) l3
  rw [swap (by unfold numF; rw [List.length_map, hx]) rs _ R.len] at s1
  unfold fitsB at h1
  rw [Bool.and_eq_true, List.all_eq_true] at h1
  have s2 := gain_le (X := numF xs (lcmF xs)) (xs := xs) (ws := ws) S0 L0 rs ws (fun w hw => ⟨(W.fs.is w hw).pos, l1 w hw⟩) (fun p hp => h1.2 p hp) (fun r hr => ok_row X (List.all_eq_true.mp h2 r hr))
  have v1 : (paidF rs ws xs m).1 * lcmF (paidFs rs ws xs m) = (numF (paidFs rs ws xs m) (lcmF (paidFs rs ws xs m))).sum * (paidF rs ws xs m).2 := low_val (by omega)
  have v2 : (gainF rs ws).1 * lcmF ws = dotF (rs.map fun r => r.b) (numF ws (lcmF ws)) * (gainF rs ws).2 := low_val (by omega)
  have p1 : 0 < (paidF rs ws xs m).2 := (paid_bd R W X hm).1.pos
  have p2 : 0 < (gainF rs ws).2 := (gain_bd R W).1.pos
  generalize (paidF rs ws xs m).1 = a at *
  generalize (paidF rs ws xs m).2 = b at *
  generalize (gainF rs ws).1 = c at *
  generalize (gainF rs ws).2 = d at *
  generalize (numF (paidFs rs ws xs m) (lcmF (paidFs rs ws xs m))).sum = s at *
  generalize lcmF (paidFs rs ws xs m) = P at *
  generalize ((rs.zip (numF ws (lcmF ws))).map fun p => p.2 * dotF p.1.ws (numF xs (lcmF xs))).sum = E at *
  generalize dotF (rs.map fun r => r.b) (numF ws (lcmF ws)) = G at *
  generalize lcmF ws = S at *
  generalize lcmF xs = L at *
  intro hlt
  have hpos : 0 < P * (S * L) := Int.mul_pos P0 (Int.mul_pos S0 L0)
  have k1 := Int.mul_lt_mul_of_pos_right hlt hpos
  have e1 : a * d * (P * (S * L)) = P * E * (b * d) := by
    calc a * d * (P * (S * L)) = (a * P) * (d * (S * L)) := by grind
      _ = s * b * (d * (S * L)) := by rw [v1]
      _ = (s * (S * L)) * (b * d) := by grind
      _ = P * E * (b * d) := by rw [s1]
  have e2 : c * b * (P * (S * L)) = P * (G * L) * (b * d) := by
    calc c * b * (P * (S * L)) = (c * S) * (b * (P * L)) := by grind
      _ = G * d * (b * (P * L)) := by rw [v2]
      _ = P * (G * L) * (b * d) := by grind
  have k2 : P * (G * L) * (b * d) ≤ P * E * (b * d) := Int.mul_le_mul_of_nonneg_right (Int.mul_le_mul_of_nonneg_left s2 (by omega)) (Int.le_of_lt (Int.mul_pos p1 p2))
  omega
end Q

set_option Elab.async false
set_option linter.all false
set_option maxRecDepth 100000
set_option maxHeartbeats 4000000
namespace Q
open PySem PySem.Spec PyProof.Rows L2 Z R QF
local macro_rules | `(tactic| walk_at "ds") => `(tactic| first | assumption | decide | omega | exact ⟨by decide, by decide⟩ | exact ⟨by omega, by omega⟩ | exact div_lit ⟨by omega, by omega⟩ | exact mul_r (by omega) | exact mul_l (by omega))
local macro_rules | `(tactic| walk_at "ev") => `(tactic| simp (disch := walk_at "ds") only [bind_ok, bind_ex, bind_no, oc_k, oc_x, oc_n, of_some, of_none, okV_ok, okV_ex, okV_no, bOf_b, iOf_i, asL_l, asS_l, asS_s, lOf_l, var_ev, var_el, var_es, int_ev, bool_ev, non_ev, str_ev, av_f, av_t, op_ev, op_el, op_es, opN_ev, e_ev, e_el, e_es, neg_ev, bv_eq, iv_eq, andV_ev, orV_ev, notV_ev, ife_ev, ife_el, ife_es, chain_ev, inK_ev, setfld_ev, tup_ev, dev_eq, avD_nil, avD_cons, lst_ev, anil_ev, acons_ev, bi_ev, biN_ev, call_ev, call_el, call_es, callN_ev, meth_ev, meth_el, meth_es, methN_ev, make_ev, fld_ev, fld_el, fld_es, test_ev, B_ev, and_ev, or_ev, not_ev, truthL_ev, ifeT_ev, yes_ev, onone_ev, osome_ev, sl_ev, slS_ev, lend_ev, blank_ev, ilist_ev, irng1_ev, irng2_ev, avI1_i, avI2_i, ienum_ev, izip_ev, gname_ev, gnil_ev, gcons_ev, gtup_ev, glst_ev, lc_ev, nx_ev, brk_ev, cnt_ev, seq_ev, set_ev, setN_ev, asg_ev, par_ev, aug_ev, seti_ev, app_ev, ite_ev, ret_ev, retN_ev, retO_ev, retV_ev, drop_ev, frz_ev, for_ev, lp_nil, raise_ev, try_ev, add_ka, add_kb, add_f, sub_ka, sub_kb, sub_f, band_ka, band_kb, band_f, lt_ka, lt_kb, lt_f, le_ka, le_kb, le_f, gt_ka, gt_kb, gt_f, ge_ka, ge_kb, ge_f, mul_ka, mul_kb, div_ka, div_kb, divU_ka, divU_kb, mod_ka, mod_kb, pow_ka, pow_kb, shl_ka, shl_kb, shr_ka, shr_kb, eq_ka, eq_kb, ne_ka, ne_kb, eqD_ka, eqD_kb, neD_ka, neD_kb, isN_ka, isN_kb, notN_ka, notN_kb, isB_ka, isB_kb, notB_ka, notB_kb, ixS_ka, ixS_kb, ixT_ka, ixT_kb, neL_ka, neL_kb, ixL_ka, ixL_kb, inL_ka, inL_kb, notInL_ka, notInL_kb, cat_ka, cat_kb, rep_ka, rep_kb, eq_i, eq_s, ne_i, ne_s, isB_f, notB_f, isN_f, notN_f, ixL_f, ixT_f, ixS_f, len_f, lenS_f, abs_f, min2_f, max2_f, int_f, intB_f, gcd_f, listN_f, runX_eq, res_rt, res_ro, res_nx, res_xc, at0, at1, at2, rng_if, lcL_nil, mul_f, div_f, divU_f, mod_f, pow_f, shl_f, shr_f, cat_f, lcm_f, repr_f, List.getElem?_cons_zero, List.getElem?_cons_succ, List.set_cons_zero, List.set_cons_succ, List.length_cons, List.length_nil, Nat.reduceAdd, Nat.reduceLT, Nat.reduceLeDiff, Nat.reduceEqDiff, if_true, if_false, Option.map_some, Option.map_none, Option.bind_some, Option.bind_none, reduceIte, decide_true, decide_false, R.start, avS, R.frz, at0, at1, at2, allXb, Sv.isX, List.all_cons, List.all_nil, Bool.and_true, Bool.true_and, Bool.and_false, Bool.false_and, List.flatten_cons, List.map_cons, List.map_nil, List.cons_append, List.nil_append, List.replicate_succ, List.replicate_zero, Bool.not_true, Bool.not_false, Nat.reduceMul, Nat.reduceSub, Nat.zero_add, and_self, and_true, true_and, and_false, false_and])
local macro_rules | `(tactic| walk_at "evh") => `(tactic| simp (disch := walk_at "ds") only [bind_ok, bind_ex, bind_no, oc_k, oc_x, oc_n, of_some, of_none, okV_ok, okV_ex, okV_no, bOf_b, iOf_i, asL_l, asS_l, asS_s, lOf_l, var_ev, var_el, var_es, int_ev, bool_ev, non_ev, str_ev, av_f, av_t, op_ev, op_el, op_es, opN_ev, e_ev, e_el, e_es, neg_ev, bv_eq, iv_eq, andV_ev, orV_ev, notV_ev, ife_ev, ife_el, ife_es, chain_ev, inK_ev, setfld_ev, tup_ev, dev_eq, avD_nil, avD_cons, lst_ev, anil_ev, acons_ev, bi_ev, biN_ev, call_ev, call_el, call_es, callN_ev, meth_ev, meth_el, meth_es, methN_ev, make_ev, fld_ev, fld_el, fld_es, test_ev, B_ev, and_ev, or_ev, not_ev, truthL_ev, ifeT_ev, yes_ev, onone_ev, osome_ev, sl_ev, slS_ev, lend_ev, blank_ev, ilist_ev, irng1_ev, irng2_ev, avI1_i, avI2_i, ienum_ev, izip_ev, gname_ev, gnil_ev, gcons_ev, gtup_ev, glst_ev, lc_ev, nx_ev, brk_ev, cnt_ev, seq_ev, set_ev, setN_ev, asg_ev, par_ev, aug_ev, seti_ev, app_ev, ite_ev, ret_ev, retN_ev, retO_ev, retV_ev, drop_ev, frz_ev, for_ev, lp_nil, raise_ev, try_ev, add_ka, add_kb, add_f, sub_ka, sub_kb, sub_f, band_ka, band_kb, band_f, lt_ka, lt_kb, lt_f, le_ka, le_kb, le_f, gt_ka, gt_kb, gt_f, ge_ka, ge_kb, ge_f, mul_ka, mul_kb, div_ka, div_kb, divU_ka, divU_kb, mod_ka, mod_kb, pow_ka, pow_kb, shl_ka, shl_kb, shr_ka, shr_kb, eq_ka, eq_kb, ne_ka, ne_kb, eqD_ka, eqD_kb, neD_ka, neD_kb, isN_ka, isN_kb, notN_ka, notN_kb, isB_ka, isB_kb, notB_ka, notB_kb, ixS_ka, ixS_kb, ixT_ka, ixT_kb, neL_ka, neL_kb, ixL_ka, ixL_kb, inL_ka, inL_kb, notInL_ka, notInL_kb, cat_ka, cat_kb, rep_ka, rep_kb, eq_i, eq_s, ne_i, ne_s, isB_f, notB_f, isN_f, notN_f, ixL_f, ixT_f, ixS_f, len_f, lenS_f, abs_f, min2_f, max2_f, int_f, intB_f, gcd_f, listN_f, runX_eq, res_rt, res_ro, res_nx, res_xc, at0, at1, at2, rng_if, lcL_nil, mul_f, div_f, divU_f, mod_f, pow_f, shl_f, shr_f, cat_f, lcm_f, repr_f, List.getElem?_cons_zero, List.getElem?_cons_succ, List.set_cons_zero, List.set_cons_succ, List.length_cons, List.length_nil, Nat.reduceAdd, Nat.reduceLT, Nat.reduceLeDiff, Nat.reduceEqDiff, if_true, if_false, Option.map_some, Option.map_none, Option.bind_some, Option.bind_none, reduceIte, decide_true, decide_false, R.start, avS, R.frz, at0, at1, at2, allXb, Sv.isX, List.all_cons, List.all_nil, Bool.and_true, Bool.true_and, Bool.and_false, Bool.false_and, List.flatten_cons, List.map_cons, List.map_nil, List.cons_append, List.nil_append, List.replicate_succ, List.replicate_zero, Bool.not_true, Bool.not_false, Nat.reduceMul, Nat.reduceSub, Nat.zero_add, and_self, and_true, true_and, and_false, false_and, *])
variable {K : PySem.W.Frag} {mg : Str → Option Value} (T : Tx K mg)
theorem nevb (x : Bool) : (O2.neD : O2 K).f (.v (.d (.bool x))) (.v (.d (.bool x))) = some (.d (.bool false)) := by
  rw [neD_f ⟨sh_b x, sh_b x⟩, eqv_b]
  simp
theorem sh_tp (p : Int) : SeqAt.shaped (.tuple [.bool true, .int p]) = true := Sh.shaped (k := 1) (sh_tup (sh_cons sh_bool (sh_cons sh_int sh_nil)))
theorem netp (p : Int) : (O2.neD : O2 K).f (.v (.d (.tuple [.bool true, .int p]))) (.v (.d (.tuple [.bool true, .int p]))) = some (.d (.bool false)) := by
  rw [neD_f ⟨sh_tp p, sh_tp p⟩, SeqAt.eqv_refl _ (Sh.lay (k := 1) (sh_tup (sh_cons sh_bool (sh_cons sh_int sh_nil))))]
  rfl
theorem nev_same (x : Int × Int) : (O2.neD : O2 K).f (.v (.d (fd x))) (.v (.d (fd x))) = some (.d (.bool false)) := by
  rw [show (Av.v (Vl.d (fd x))) = fv x from rfl, nevfd]
  simp
theorem sh_fds (fs : List (Int × Int)) : Sh 2 (.list (fs.map fd)) := sh_list (sh_map fun x _ => sh_tup (sh_cons sh_int (sh_cons sh_int sh_nil)))
theorem neL_same (fs : List (Int × Int)) : (O2.neL : O2 K).f (.l (fs.map fd)) (.v (.d (.list (fs.map fd)))) = some (.d (.bool false)) := by
  rw [neL_f ⟨(sh_fds fs).shaped, (sh_fds fs).shaped⟩, (sh_fds fs).refl]
  rfl
theorem nes_same (x : Str) : (O2.ne : O2 K).f (.v (.d (.str x))) (.v (.d (.str x))) = some (.d (.bool false)) := by
  show some (Vl.d (.bool (!decide (x = x)))) = _
  simp
theorem repr_ws {ws : List (Int × Int)} (W : Ws ws) : reprOk (.list (ws.map fd)) = true := by
  have p4 : (2 : Nat) ^ 4 = 16 := rfl
  have p3 : (2 : Nat) ^ 3 = 8 := rfl
  have h : Z.Sm 2 1000 (.list (ws.map fd)) := Z.sm_list (k := 1) (w := 100) (Z.sm_map fun x hx => by
    have s := W.sm x hx
    have a := s.num
    have b := s.den
    exact Z.sm_tup (k := 0) (w := 40) (Z.sm_cons (Z.sm_int (by omega)) (Z.sm_cons (Z.sm_int (by omega)) Z.sm_nil)) (by show 2 * (40 + 1) ≤ 100; decide)) (by rw [List.length_map]; have := W.len; omega)
  unfold reprOk
  rw [h.show_, PyData.hasDict_of_canLay _ h.sh.lay, decide_eq_true (Nat.le_trans h.sh.deep (by decide : 2 ≤ 60)), decide_eq_true (h.len (by decide) (by decide))]
  rfl
def EL (xs ns : List Int) (m : Nat) (ps : List Int) (rs : List Rw) (z6 z7 z8 z9 z10 z11 z12 z13 : Sv) : List Sv := [.v (.s xs), .v (.d (.list (ns.map .int))), .v (.d (.int m)), .v (.d (.list (ps.map .int))), .v (.d (.list (rs.map enR))), .v (pgv T ps rs), z6, z7, z8, z9, z10, z11, z12, z13, .x, .x, .x, .x, .x]
section
variable {xs ns ps : List Int} {m : Nat} {rs : List Rw} {t : Int}
theorem w_step (hn : Nums ns 160) (R : RowsP rs m) (ht : 0 ≤ t ∧ t ≤ 4) {z7 z8 z9 z10 z11 z12 z13 : Sv} : ∃ ws, Ws ws ∧ ws.length = rs.length ∧ ∀ {s : XS K} {o : Oc}, s.ev (EL T xs ns m ps rs (.v (.d (.int t))) (.v (.d (.list (ws.map fd)))) z8 z9 z10 z11 z12 z13) = o → (XS.seq (.set 7 (XN.lc (.range1 (.cons false (.bi Bi.len (.cons true (.var 4) .nil)) .nil)) (.name 15) .yes (.call (fn_law_some T) (fno_law_some T) (.cons false (.var 1) (.cons false (.int 100) (.cons false (.op O2.add (.op O2.mul (.int 3) (.var 6)) (.var 15)) .nil)))) [15]).e)
    (.seq (.ite (.test (.op O2.gt (.var 6) (.int 1)))
    (.set 7 (.call (fn_law_signed T) (fno_law_signed T) (.cons false (.var 4) (.cons false (.var 7) .nil))))
    XS.nx) s)).ev (EL T xs ns m ps rs (.v (.d (.int t))) z7 z8 z9 z10 z11 z12 z13) = o := by
  have hcnt := R.cnt
  have ex : ∀ k : Nat, ∃ x, Sm x ∧ (fn_law_some T).f [nv ns, iv 100, iv (3 * t + (0 + (k : Int)))] = .ok (.d (fd x)) := fun k => f_some T hn (by omega)
  obtain ⟨f, hf⟩ := Classical.axiomOfChoice ex
  obtain ⟨w0, hw0⟩ : ∃ w0, w0 = (List.range rs.length).map f := ⟨_, rfl⟩
  have l0 : w0.length = rs.length := by rw [hw0]; simp
  have W0 : Ws w0 := ⟨fun x hx => by
    rw [hw0] at hx
    obtain ⟨k, -, rfl⟩ := List.mem_map.mp hx
    exact (hf k).1, by omega⟩
  have hc : lcL (K := K) (.name 15) .yes (.call (fn_law_some T) (fno_law_some T) (.cons false (.var 1) (.cons false (.int 100) (.cons false (.op O2.add (.op O2.mul (.int 3) (.var 6)) (.var 15)) .nil)))) (EL T xs ns m ps rs (.v (.d (.int t))) z7 z8 z9 z10 z11 z12 z13) (irange 0 rs.length) = some (w0.map fd) := by
    rw [hw0, List.map_map]
    refine lcL_map (en := fun k : Nat => PyData.int (0 + (k : Int))) (xs := List.range rs.length) fun k _ => ?_
    have h := (hf k).2
    have hm := fnm_law_some T
    show lcOne _ _ _ _ _ = some (some (fd (f k)))
    generalize f k = x at h
    generalize (0 + (k : Int)) = k' at h ⊢
    rw [lcOne_eq]
    unfold nv at h
    unfold EL
    clear hn R ht hcnt ex hf hw0 l0 W0
    walk_at "evh"
    try rfl
  have s1 : (XS.set 7 (XN.lc (.range1 (.cons false (.bi Bi.len (.cons true (.var 4) .nil)) .nil)) (.name 15) .yes (.call (fn_law_some T) (fno_law_some T) (.cons false (.var 1) (.cons false (.int 100) (.cons false (.op O2.add (.op O2.mul (.int 3) (.var 6)) (.var 15)) .nil)))) [15]).e : XS K).ev (EL T xs ns m ps rs (.v (.d (.int t))) z7 z8 z9 z10 z11 z12 z13) = .nx (EL T xs ns m ps rs (.v (.d (.int t))) (.v (.d (.list (w0.map fd)))) z8 z9 z10 z11 z12 z13) := by
    have hg : ((XG.name 15 : XG K).T.all fun i => decide (i ∈ [15])) = true := rfl
    have hr : ((rs.length : Nat) : Int).natAbs < 4611686018427387904 := by omega
    have hr2 : (irange 0 rs.length).length ≤ 100000 := by rw [irange_len]; omega
    have htn : ((rs.length : Nat) : Int).toNat = rs.length := rfl
    have q1 : ((rs.map enR).length : Int) = (rs.length : Nat) := by rw [List.length_map]
    unfold EL at *
    clear hn R ht hcnt ex hf hw0 l0 W0
    walk_at "evh"
  by_cases c : 1 < t
  · have d : decide (1 < t) = true := decide_eq_true c
    have h2 := f_signed T (rs := rs) (ws := w0) R.cnt
    have m2 := fnm_law_signed T
    refine ⟨(rs.zip w0).map fun p => sg p.1.r p.2, ⟨fun x hx => ?_, by rw [List.length_map, List.length_zip]; omega⟩, by rw [List.length_map, List.length_zip]; omega, fun {s o} ho => run_nx s1 (run_nx (ite_t ?_ ?_) ho)⟩
    · obtain ⟨p, hp, rfl⟩ := List.mem_map.mp hx
      exact sg_sm (W0.sm _ (List.of_mem_zip (show (p.1, p.2) ∈ _ from hp)).2)
    · unfold EL
      clear ho s1 hc h2 hf ex hn R W0 hw0 c
      walk_at "evh"
    · unfold EL
      unfold fvs at h2
      clear ho s1 hc hf ex hn R W0 hw0 c d
      walk_at "evh"
  · have d : decide (1 < t) = false := decide_eq_false c
    refine ⟨w0, W0, l0, fun {s o} ho => run_nx s1 (run_nx (ite_f ?_ rfl) ho)⟩
    unfold EL
    clear ho s1 hc hf ex hn R W0 hw0 c
    walk_at "evh"
theorem x_step (hn : Nums ns 160) (hm : m ≤ 5) (ht : 0 ≤ t ∧ t ≤ 4) {z7 z8 z9 z10 z11 z12 z13 : Sv} : ∃ vs, Ws vs ∧ vs.length = m ∧ (∀ x ∈ vs, 0 ≤ x.1) ∧ ∀ {s : XS K} {o : Oc}, s.ev (EL T xs ns m ps rs (.v (.d (.int t))) z7 z8 z9 z10 z11 (.v (.d (.list (vs.map fd)))) z13) = o → (XS.seq (.set 12 (XN.lc (.range1 (.cons false (.var 2) .nil)) (.name 14) .yes (.call (fn_law_some T) (fno_law_some T) (.cons false (.var 1) (.cons false (.int 120) (.cons false (.op O2.add (.op O2.mul (.int 7) (.var 6)) (.var 14)) .nil)))) [14]).e)
    (.seq (.set 12 (XN.lc (.list (.var 12)) (.name 16) .yes (.tup (.cons false (.bi Bi.abs (.cons false (.op O2.ixT (.var 16) (.int 0)) .nil)) (.cons false (.op O2.ixT (.var 16) (.int 1)) .nil))) [16]).e) s)).ev (EL T xs ns m ps rs (.v (.d (.int t))) z7 z8 z9 z10 z11 z12 z13) = o := by
  have ex : ∀ k : Nat, ∃ x, Sm x ∧ (fn_law_some T).f [nv ns, iv 120, iv (7 * t + (0 + (k : Int)))] = .ok (.d (fd x)) := fun k => f_some T hn (by omega)
  obtain ⟨f, hf⟩ := Classical.axiomOfChoice ex
  obtain ⟨w0, hw0⟩ : ∃ w0, w0 = (List.range m).map f := ⟨_, rfl⟩
  have l0 : w0.length = m := by rw [hw0]; simp
  have W0 : Ws w0 := ⟨fun x hx => by
    rw [hw0] at hx
    obtain ⟨k, -, rfl⟩ := List.mem_map.mp hx
    exact (hf k).1, by omega⟩
  have hc : lcL (K := K) (.name 14) .yes (.call (fn_law_some T) (fno_law_some T) (.cons false (.var 1) (.cons false (.int 120) (.cons false (.op O2.add (.op O2.mul (.int 7) (.var 6)) (.var 14)) .nil)))) (EL T xs ns m ps rs (.v (.d (.int t))) z7 z8 z9 z10 z11 z12 z13) (irange 0 m) = some (w0.map fd) := by
    rw [hw0, List.map_map]
    refine lcL_map (en := fun k : Nat => PyData.int (0 + (k : Int))) (xs := List.range m) fun k _ => ?_
    have h := (hf k).2
    have hm := fnm_law_some T
    show lcOne _ _ _ _ _ = some (some (fd (f k)))
    generalize f k = x at h
    generalize (0 + (k : Int)) = k' at h ⊢
    rw [lcOne_eq]
    unfold nv at h
    unfold EL
    clear hn ht ex hf hw0 l0 W0
    walk_at "evh"
    try rfl
  have hc2 : lcL (K := K) (.name 16) .yes (.tup (.cons false (.bi Bi.abs (.cons false (.op O2.ixT (.var 16) (.int 0)) .nil)) (.cons false (.op O2.ixT (.var 16) (.int 1)) .nil))) (EL T xs ns m ps rs (.v (.d (.int t))) z7 z8 z9 z10 z11 (.v (.d (.list (w0.map fd)))) z13) (w0.map fd) = some ((w0.map (sg .least)).map fd) := by
    rw [List.map_map]
    refine lcL_map fun x _ => ?_
    show lcOne _ _ _ _ _ = some (some (fd (sg .least x)))
    rw [lcOne_eq]
    unfold EL sg
    clear hn ht ex hf hw0 l0 W0 hc
    walk_at "ev"
    try rfl
  have hl2 : (w0.map fd).length ≤ 100000 := by rw [List.length_map]; omega
  have hg : ((XG.name 14 : XG K).T.all fun i => decide (i ∈ [14])) = true := rfl
  have hg2 : ((XG.name 16 : XG K).T.all fun i => decide (i ∈ [16])) = true := rfl
  have hr : ((m : Nat) : Int).natAbs < 4611686018427387904 := by omega
  have hr2 : (irange 0 m).length ≤ 100000 := by rw [irange_len]; omega
  have htn : ((m : Nat) : Int).toNat = m := rfl
  refine ⟨w0.map (sg .least), ⟨fun x hx => ?_, by rw [List.length_map]; omega⟩, by rw [List.length_map, l0], fun x hx => ?_, fun {s o} ho => run_nx (st1 := EL T xs ns m ps rs (.v (.d (.int t))) z7 z8 z9 z10 z11 (.v (.d (.list (w0.map fd)))) z13) ?_ (run_nx ?_ ho)⟩
  · obtain ⟨y, hy, rfl⟩ := List.mem_map.mp hx
    exact sg_sm (W0.sm _ hy)
  · obtain ⟨y, hy, rfl⟩ := List.mem_map.mp hx
    show 0 ≤ (if y.1 < 0 then -y.1 else y.1)
    split <;> omega
  · unfold EL at *
    clear hn ht ex hf hw0 l0 W0 hc2 ho hg2 hl2
    walk_at "evh"
  · unfold EL at *
    clear hn ht ex hf hw0 l0 W0 hc ho hg hr hr2 htn
    walk_at "evh"
end
end Q

set_option Elab.async false
set_option linter.all false
set_option maxRecDepth 100000
set_option maxHeartbeats 4000000
namespace Q
open PySem PySem.Spec PyProof.Rows L2 Z R QF
local macro_rules | `(tactic| walk_at "ds") => `(tactic| first | assumption | decide | omega | exact ⟨by decide, by decide⟩ | exact ⟨by omega, by omega⟩ | exact div_lit ⟨by omega, by omega⟩ | exact mul_r (by omega) | exact mul_l (by omega))
local macro_rules | `(tactic| walk_at "ev") => `(tactic| simp (disch := walk_at "ds") only [bind_ok, bind_ex, bind_no, oc_k, oc_x, oc_n, of_some, of_none, okV_ok, okV_ex, okV_no, bOf_b, iOf_i, asL_l, asS_l, asS_s, lOf_l, var_ev, var_el, var_es, int_ev, bool_ev, non_ev, str_ev, av_f, av_t, op_ev, op_el, op_es, opN_ev, e_ev, e_el, e_es, neg_ev, bv_eq, iv_eq, andV_ev, orV_ev, notV_ev, ife_ev, ife_el, ife_es, chain_ev, inK_ev, setfld_ev, tup_ev, dev_eq, avD_nil, avD_cons, lst_ev, anil_ev, acons_ev, bi_ev, biN_ev, call_ev, call_el, call_es, callN_ev, meth_ev, meth_el, meth_es, methN_ev, make_ev, fld_ev, fld_el, fld_es, test_ev, B_ev, and_ev, or_ev, not_ev, truthL_ev, ifeT_ev, yes_ev, onone_ev, osome_ev, sl_ev, slS_ev, lend_ev, blank_ev, ilist_ev, irng1_ev, irng2_ev, avI1_i, avI2_i, ienum_ev, izip_ev, gname_ev, gnil_ev, gcons_ev, gtup_ev, glst_ev, lc_ev, nx_ev, brk_ev, cnt_ev, seq_ev, set_ev, setN_ev, asg_ev, par_ev, aug_ev, seti_ev, app_ev, ite_ev, ret_ev, retN_ev, retO_ev, retV_ev, drop_ev, frz_ev, for_ev, lp_nil, raise_ev, try_ev, add_ka, add_kb, add_f, sub_ka, sub_kb, sub_f, band_ka, band_kb, band_f, lt_ka, lt_kb, lt_f, le_ka, le_kb, le_f, gt_ka, gt_kb, gt_f, ge_ka, ge_kb, ge_f, mul_ka, mul_kb, div_ka, div_kb, divU_ka, divU_kb, mod_ka, mod_kb, pow_ka, pow_kb, shl_ka, shl_kb, shr_ka, shr_kb, eq_ka, eq_kb, ne_ka, ne_kb, eqD_ka, eqD_kb, neD_ka, neD_kb, isN_ka, isN_kb, notN_ka, notN_kb, isB_ka, isB_kb, notB_ka, notB_kb, ixS_ka, ixS_kb, ixT_ka, ixT_kb, neL_ka, neL_kb, ixL_ka, ixL_kb, inL_ka, inL_kb, notInL_ka, notInL_kb, cat_ka, cat_kb, rep_ka, rep_kb, eq_i, eq_s, ne_i, ne_s, isB_f, notB_f, isN_f, notN_f, ixL_f, ixT_f, ixS_f, len_f, lenS_f, abs_f, min2_f, max2_f, int_f, intB_f, gcd_f, listN_f, runX_eq, res_rt, res_ro, res_nx, res_xc, at0, at1, at2, rng_if, lcL_nil, mul_f, div_f, divU_f, mod_f, pow_f, shl_f, shr_f, cat_f, lcm_f, repr_f, List.getElem?_cons_zero, List.getElem?_cons_succ, List.set_cons_zero, List.set_cons_succ, List.length_cons, List.length_nil, Nat.reduceAdd, Nat.reduceLT, Nat.reduceLeDiff, Nat.reduceEqDiff, if_true, if_false, Option.map_some, Option.map_none, Option.bind_some, Option.bind_none, reduceIte, decide_true, decide_false, R.start, avS, R.frz, at0, at1, at2, allXb, Sv.isX, List.all_cons, List.all_nil, Bool.and_true, Bool.true_and, Bool.and_false, Bool.false_and, List.flatten_cons, List.map_cons, List.map_nil, List.cons_append, List.nil_append, List.replicate_succ, List.replicate_zero, Bool.not_true, Bool.not_false, Nat.reduceMul, Nat.reduceSub, Nat.zero_add, and_self, and_true, true_and, and_false, false_and])
local macro_rules | `(tactic| walk_at "evh") => `(tactic| simp (disch := walk_at "ds") only [bind_ok, bind_ex, bind_no, oc_k, oc_x, oc_n, of_some, of_none, okV_ok, okV_ex, okV_no, bOf_b, iOf_i, asL_l, asS_l, asS_s, lOf_l, var_ev, var_el, var_es, int_ev, bool_ev, non_ev, str_ev, av_f, av_t, op_ev, op_el, op_es, opN_ev, e_ev, e_el, e_es, neg_ev, bv_eq, iv_eq, andV_ev, orV_ev, notV_ev, ife_ev, ife_el, ife_es, chain_ev, inK_ev, setfld_ev, tup_ev, dev_eq, avD_nil, avD_cons, lst_ev, anil_ev, acons_ev, bi_ev, biN_ev, call_ev, call_el, call_es, callN_ev, meth_ev, meth_el, meth_es, methN_ev, make_ev, fld_ev, fld_el, fld_es, test_ev, B_ev, and_ev, or_ev, not_ev, truthL_ev, ifeT_ev, yes_ev, onone_ev, osome_ev, sl_ev, slS_ev, lend_ev, blank_ev, ilist_ev, irng1_ev, irng2_ev, avI1_i, avI2_i, ienum_ev, izip_ev, gname_ev, gnil_ev, gcons_ev, gtup_ev, glst_ev, lc_ev, nx_ev, brk_ev, cnt_ev, seq_ev, set_ev, setN_ev, asg_ev, par_ev, aug_ev, seti_ev, app_ev, ite_ev, ret_ev, retN_ev, retO_ev, retV_ev, drop_ev, frz_ev, for_ev, lp_nil, raise_ev, try_ev, add_ka, add_kb, add_f, sub_ka, sub_kb, sub_f, band_ka, band_kb, band_f, lt_ka, lt_kb, lt_f, le_ka, le_kb, le_f, gt_ka, gt_kb, gt_f, ge_ka, ge_kb, ge_f, mul_ka, mul_kb, div_ka, div_kb, divU_ka, divU_kb, mod_ka, mod_kb, pow_ka, pow_kb, shl_ka, shl_kb, shr_ka, shr_kb, eq_ka, eq_kb, ne_ka, ne_kb, eqD_ka, eqD_kb, neD_ka, neD_kb, isN_ka, isN_kb, notN_ka, notN_kb, isB_ka, isB_kb, notB_ka, notB_kb, ixS_ka, ixS_kb, ixT_ka, ixT_kb, neL_ka, neL_kb, ixL_ka, ixL_kb, inL_ka, inL_kb, notInL_ka, notInL_kb, cat_ka, cat_kb, rep_ka, rep_kb, eq_i, eq_s, ne_i, ne_s, isB_f, notB_f, isN_f, notN_f, ixL_f, ixT_f, ixS_f, len_f, lenS_f, abs_f, min2_f, max2_f, int_f, intB_f, gcd_f, listN_f, runX_eq, res_rt, res_ro, res_nx, res_xc, at0, at1, at2, rng_if, lcL_nil, mul_f, div_f, divU_f, mod_f, pow_f, shl_f, shr_f, cat_f, lcm_f, repr_f, List.getElem?_cons_zero, List.getElem?_cons_succ, List.set_cons_zero, List.set_cons_succ, List.length_cons, List.length_nil, Nat.reduceAdd, Nat.reduceLT, Nat.reduceLeDiff, Nat.reduceEqDiff, if_true, if_false, Option.map_some, Option.map_none, Option.bind_some, Option.bind_none, reduceIte, decide_true, decide_false, R.start, avS, R.frz, at0, at1, at2, allXb, Sv.isX, List.all_cons, List.all_nil, Bool.and_true, Bool.true_and, Bool.and_false, Bool.false_and, List.flatten_cons, List.map_cons, List.map_nil, List.cons_append, List.nil_append, List.replicate_succ, List.replicate_zero, Bool.not_true, Bool.not_false, Nat.reduceMul, Nat.reduceSub, Nat.zero_add, and_self, and_true, true_and, and_false, false_and, *])
variable {K : PySem.W.Frag} {mg : Str → Option Value} (T : Tx K mg)
theorem cutD_tail {ds : List PyData} : Z.cutD ds (some 1) none = ds.drop 1 := by
  unfold Z.cutD
  have e1 : HT.sIx ds.length 0 (some 1) = min 1 ds.length := rfl
  have e2 : HT.sIx ds.length ds.length none = ds.length := rfl
  rw [e1, e2]
  cases ds <;> simp
theorem notB_ff : (O2.notB : O2 K).f (.v (.d (.bool false))) (.v (.d (.bool false))) = some (.d (.bool false)) := rfl
section
variable {xs ns ps : List Int} {m : Nat} {rs : List Rw} {t : Int}
theorem wrong_turn (R : RowsP rs m) {l : List (Int × Int)} {z6 z7 z8 z9 z10 z12 z13 : Sv} : (xb_law_1 T).ev (EL T xs ns m ps rs z6 z7 z8 z9 z10 (.v (.d (.list (l.map fd)))) z12 z13) = .nx (EL T xs ns m ps rs z6 z7 z8 z9 z10 (.v (.d (.list (l.map fd)))) z12 z13) := by
  have hl : rs.length ≤ 100000 := by have := R.cnt; omega
  have q1 : ((rs.map enR).length : Int) = (rs.length : Nat) := by rw [List.length_map]
  have q2 : ((l.map fd).length : Int) = (l.length : Nat) := by rw [List.length_map]
  unfold xb_law_1
  by_cases h : l.length = rs.length
  · have d1 : decide (((l.length : Nat) : Int) = ((rs.length : Nat) : Int)) = true := decide_eq_true (by omega)
    refine ite_f ?_ rfl
    unfold EL
    clear hl h R
    walk_at "evh"
    try rfl
  · have d1 : decide (((l.length : Nat) : Int) = ((rs.length : Nat) : Int)) = false := decide_eq_false (by omega)
    have a1 := f_are_fit T (ps := ps) (ws := l) hl
    have e : fitsB rs l = false := by unfold fitsB; rw [decide_eq_false h, Bool.false_and]
    rw [e] at a1
    have m1 := fnm_are_fit T
    have a2 := f_refused0 T (ps := ps) hl h
    have a3 := f_refused1 T (ps := ps) hl h
    have m2 := fnm_law_refused T
    have a4 := netp (K := K) 0
    have a5 := notB_ff (K := K)
    unfold fvs pgm at *
    refine ite_t ?_ (run_nx (ite_f ?_ rfl) (ite_f ?_ rfl))
    · unfold EL
      clear a1 a2 a3 a4 a5 hl h R e
      walk_at "evh"
      try rfl
    · unfold EL
      clear a2 a3 a4 hl h R e d1
      walk_at "evh"
    · unfold EL
      clear a1 a5 hl h R e d1
      walk_at "evh"
theorem turn (hn : Nums ns 160) (hp : ps.length = m) (hm : 1 ≤ m ∧ m ≤ 5) (R : RowsP rs m) (ht : 0 ≤ t ∧ t ≤ 4) {z7 z8 z9 z10 z11 z12 z13 : Sv} : ∃ w7 w8 w9 w10 w11 w12 w13, (xb_law_2 T).ev (EL T xs ns m ps rs (.v (.d (.int t))) z7 z8 z9 z10 z11 z12 z13) = .nx (EL T xs ns m ps rs (.v (.d (.int t))) w7 w8 w9 w10 w11 w12 w13) := by
  obtain ⟨ws, W, hl, h1⟩ := w_step T (xs := xs) (ps := ps) hn R ht (z7 := z7) (z8 := z8) (z9 := z9) (z10 := z10) (z11 := z11) (z12 := z12) (z13 := z13)
  have hcnt := R.cnt
  have hl5 : rs.length ≤ 100000 := by omega
  obtain ⟨due, hdue⟩ : ∃ due, due = (List.range m).map (loadF rs ws) := ⟨_, rfl⟩
  obtain ⟨sh, hsh⟩ : ∃ sh, sh = (PyData.list (ws.map fd)).shown := ⟨_, rfl⟩
  obtain ⟨l, hl11⟩ : ∃ l, l = ws.drop 1 := ⟨_, rfl⟩
  obtain ⟨vs, V, hvl, hv0, h2⟩ := x_step T (xs := xs) (ps := ps) (rs := rs) hn hm.2 ht (z7 := .v (.d (.list (ws.map fd)))) (z8 := .v (.d (.str sh))) (z9 := .v (.d (.list (due.map fd)))) (z10 := .ol (due.map fd ++ [.int 1])) (z11 := .v (.d (.list (l.map fd)))) (z12 := z12) (z13 := z13)
  have rp := repr_f (K := K) (repr_ws W)
  rw [← hsh] at rp
  clear hsh
  have b1 := f_loads T hp (by omega) R W.fs hl
  rw [← hdue] at b1
  have b2 := f_gain T (ps := ps) R W.fs hl
  have b3 := f_law_gain T R W hl
  have b4 := f_are_fit T (ps := ps) (ws := ws) hl5
  have b5 := f_law_fit T hl hl5
  have b6 := f_solution T R hvl V hv0
  have m1 := fnm_loads T
  have m2 := fnm_gain T
  have m3 := fnm_law_gain T
  have m4 := fnm_are_fit T
  have m5 := fnm_law_fit T
  have m6 := fnm_law_solution T
  have c1 := neL_same (K := K) due
  have c2 := nev_same (K := K) (gainF rs ws)
  have c3 := nes_same (K := K) sh
  have c4 := nevb (K := K) (fitsB rs ws)
  have ld : due.length = m := by rw [hdue]; simp
  have hap : (due.map fd).length < 1000000 := by rw [List.length_map]; omega
  have hca : (ws.map fd).length + [fd (1, 2)].length ≤ 1000000 := by rw [List.length_map]; have := W.len; show _ + 1 ≤ _; omega
  have hct := cutD_tail (ds := ws.map fd)
  rw [← List.map_drop, ← hl11] at hct
  clear hl11
  have hr : ((m : Nat) : Int).natAbs < 4611686018427387904 := by omega
  have hr2 : (irange 0 m).length ≤ 100000 := by rw [irange_len]; omega
  have htn : ((m : Nat) : Int).toNat = m := rfl
  have hg : ((XG.name 14 : XG K).T.all fun i => decide (i ∈ [14])) = true := rfl
  have hdc : lcL (K := K) (.name 14) .yes (.call (fn_law_load T) (fno_law_load T) (.cons false (.var 4) (.cons false (.var 7) (.cons false (.var 14) .nil)))) (EL T xs ns m ps rs (.v (.d (.int t))) (.v (.d (.list (ws.map fd)))) (.v (.d (.str sh))) z9 z10 z11 z12 z13) (irange 0 m) = some (due.map fd) := by
    rw [hdue, List.map_map]
    refine lcL_map (en := fun k : Nat => PyData.int (0 + (k : Int))) (xs := List.range m) fun k hk => ?_
    have h := f_law_load T R (List.mem_range.mp hk) W hl
    have hm := fnm_law_load T
    show lcOne _ _ _ _ _ = some (some (fd (loadF rs ws k)))
    generalize (0 + (k : Int)) = k' at h ⊢
    rw [lcOne_eq]
    unfold fvs at h
    unfold EL
    clear h1 h2 rp b1 b2 b3 b4 b5 b6 c1 c2 c3 c4 hct hca hap hn R ht hcnt W V hv0 hk hdue
    walk_at "evh"
    try rfl
  have fin : ∃ w13, (XS.ite (.and (.B (.call (fn_law_fit T) (fno_law_fit T) (.cons false (.var 4) (.cons false (.var 7) .nil)))) (.B (.call (fn_law_solution T) (fno_law_solution T) (.cons false (.var 2) (.cons false (.var 4) (.cons false (.var 12) .nil))))))
    (.seq (.set 13 (.call (fn_law_added T) (fno_law_added T) (.cons false (XN.lc (.zip (.var 9) (.var 12)) (.tup (.cons (.name 17) (.cons (.name 18) .nil))) .yes (.call (fn_law_times T) (fno_law_times T) (.cons false (.var 17) (.cons false (.var 18) .nil))) [17, 18]).e .nil)))
    (.ite (.B (.call (fn_law_less T) (fno_law_less T) (.cons false (.var 13) (.cons false (.call (fn_gain T) (fno_gain T) (.cons false (.var 5) (.cons false (.var 7) .nil))) .nil))))
    (.ret (.bool false))
    XS.nx))
    XS.nx : XS K).ev (EL T xs ns m ps rs (.v (.d (.int t))) (.v (.d (.list (ws.map fd)))) (.v (.d (.str sh))) (.v (.d (.list (due.map fd)))) (.ol (due.map fd ++ [.int 1])) (.v (.d (.list (l.map fd)))) (.v (.d (.list (vs.map fd)))) z13) = .nx (EL T xs ns m ps rs (.v (.d (.int t))) (.v (.d (.list (ws.map fd)))) (.v (.d (.str sh))) (.v (.d (.list (due.map fd)))) (.ol (due.map fd ++ [.int 1])) (.v (.d (.list (l.map fd)))) (.v (.d (.list (vs.map fd)))) w13) := by
    by_cases g1 : fitsB rs ws = true
    · by_cases g2 : (rs.all fun r => okB r vs) = true
      · rw [g1] at b5
        rw [g2] at b6
        obtain ⟨F, -⟩ := paid_fs R W V hm.2
        have n1 := f_law_added T F
        replace n1 : (fn_law_added T).f [fvs (paidFs rs ws vs m)] = .ok (.d (fd (paidF rs ws vs m))) := n1
        have k1 := fnm_law_added T
        obtain ⟨-, p1, p2⟩ := paid_bd R W V hm.2
        obtain ⟨-, p3, p4⟩ := gain_bd R W
        have n2 := f_law_less T (x := paidF rs ws vs m) (y := gainF rs ws) (n := 180) (a := 130) (b := 22) ⟨p1, Nat.lt_of_lt_of_le p3 (Nat.pow_le_pow_right (by decide) (by decide)), p2, p4, by decide, by decide⟩
        rw [decide_eq_false (paid_ge R hm.2 W V hvl g1 g2)] at n2
        have k2 := fnm_law_less T
        have hz := zipD_map fd fd due vs
        have hzl : ((due.zip vs).map fun p => PyData.tuple [fd p.1, fd p.2]).length ≤ 100000 := by rw [List.length_map, List.length_zip]; omega
        have hg2 : ((XG.tup (.cons (.name 17) (.cons (.name 18) .nil)) : XG K).T.all fun i => decide (i ∈ [17, 18])) = true := rfl
        have hzc : lcL (K := K) (.tup (.cons (.name 17) (.cons (.name 18) .nil))) .yes (.call (fn_law_times T) (fno_law_times T) (.cons false (.var 17) (.cons false (.var 18) .nil))) (EL T xs ns m ps rs (.v (.d (.int t))) (.v (.d (.list (ws.map fd)))) (.v (.d (.str sh))) (.v (.d (.list (due.map fd)))) (.ol (due.map fd ++ [.int 1])) (.v (.d (.list (l.map fd)))) (.v (.d (.list (vs.map fd)))) z13) ((due.zip vs).map fun p => PyData.tuple [fd p.1, fd p.2]) = some ((paidFs rs ws vs m).map fd) := by
          unfold paidFs
          rw [← hdue, List.map_map]
          refine lcL_map fun p hp => ?_
          have h := List.of_mem_zip (show (p.1, p.2) ∈ _ from hp)
          have i := h.1
          rw [hdue] at i
          obtain ⟨j, hj, e⟩ := List.mem_map.mp i
          obtain ⟨i1, i2, i3⟩ := load_bd R (List.mem_range.mp hj) W
          rw [e] at i1 i2 i3
          have s := V.sm _ h.2
          have q1 := i1.pos
          have q2 := s.is.pos
          have hh := f_law_times T (x := p.1) (y := p.2) (n := 37) (a := 22) (b := 3) ⟨i2, Nat.lt_of_lt_of_le s.num (Nat.pow_le_pow_right (by decide) (by decide)), i3, s.den, by decide, by decide⟩ (by omega) (by omega)
          have hm := fnm_law_times T
          show lcOne _ _ _ _ _ = some (some (fd (tm p)))
          unfold tm
          generalize low (p.1.1 * p.2.1) (p.1.2 * p.2.2) = r at hh ⊢
          rw [lcOne_eq]
          unfold EL
          unfold fv at hh
          clear h1 h2 rp b1 b2 b3 b4 b5 b6 c1 c2 c3 c4 hct hca hap hn R ht hcnt W V hv0 hdue n1 n2 p1 p2 p3 p4 hz hzl F hdc h i i1 i2 i3 s q1 q2 e hj hp
          walk_at "evh"
          try rfl
        refine ⟨.v (.d (fd (paidF rs ws vs m))), ite_t ?_ (run_nx (st1 := EL T xs ns m ps rs (.v (.d (.int t))) (.v (.d (.list (ws.map fd)))) (.v (.d (.str sh))) (.v (.d (.list (due.map fd)))) (.ol (due.map fd ++ [.int 1])) (.v (.d (.list (l.map fd)))) (.v (.d (.list (vs.map fd)))) (.v (.d (fd (paidF rs ws vs m))))) ?_ (ite_f ?_ rfl))⟩
        · unfold EL
          unfold fvs at b5 b6
          clear h1 h2 rp b1 b2 b3 b4 c1 c2 c3 c4 hct hca hap hn R ht hcnt W V hv0 hdue n1 n2 p1 p2 p3 p4 hz hzl F hdc hzc g1 g2
          walk_at "evh"
        · unfold EL at *
          unfold fvs at n1
          clear h1 h2 rp b1 b2 b3 b4 b5 b6 c1 c2 c3 c4 hct hca hap hn R ht hcnt W V hv0 hdue n2 p1 p2 p3 p4 F hdc g1 g2
          walk_at "evh"
        · unfold EL
          unfold fvs pgm at b2
          unfold fv at n2
          clear h1 h2 rp b1 b3 b4 b5 b6 c1 c2 c3 c4 hct hca hap hn R ht hcnt W V hv0 hdue n1 p1 p2 p3 p4 hz hzl F hdc hzc g1 g2
          walk_at "evh"
      · rw [g1] at b5
        rw [Bool.not_eq_true] at g2
        rw [g2] at b6
        refine ⟨z13, ite_f ?_ rfl⟩
        unfold EL
        unfold fvs at b5 b6
        clear h1 h2 rp b1 b2 b3 b4 c1 c2 c3 c4 hct hca hap hn R ht hcnt W V hv0 hdue hdc g1 g2
        walk_at "evh"
    · rw [Bool.not_eq_true] at g1
      rw [g1] at b5
      refine ⟨z13, ite_f ?_ rfl⟩
      unfold EL
      unfold fvs at b5 b6
      clear h1 h2 rp b1 b2 b3 b4 b6 c1 c2 c3 c4 hct hca hap hn R ht hcnt W V hv0 hdue hdc g1
      walk_at "evh"
  obtain ⟨w13, fin⟩ := fin
  obtain ⟨y, hy, hlp⟩ := lp_ex (K := K) (g := .name 11) (s := xb_law_1 T) (en := fun l : List (Int × Int) => PyData.list (l.map fd)) (xs := [ws ++ [(1, 2)], l]) (fun z : Sv => EL T xs ns m ps rs (.v (.d (.int t))) (.v (.d (.list (ws.map fd)))) (.v (.d (.str sh))) (.v (.d (.list (due.map fd)))) (.ol (due.map fd ++ [.int 1])) z z12 z13) (fun pre y => ∀ a ∈ pre.getLast?, y = .v (.d (.list (a.map fd)))) (x0 := z11) (fun a h => nomatch h) (by
    rintro pre l' post y e -
    refine ⟨.v (.d (.list (l'.map fd))), fun a ha => ?_, _, by unfold EL; walk_at "ev", .inl (wrong_turn T R)⟩
    rw [List.getLast?_append] at ha
    have : l' = a := by simpa using ha
    rw [this])
  have hy : y = .v (.d (.list (l.map fd))) := hy l rfl
  subst hy
  refine ⟨.v (.d (.list (ws.map fd))), .v (.d (.str sh)), .v (.d (.list (due.map fd))), .ol (due.map fd ++ [.int 1]), .v (.d (.list (l.map fd))), .v (.d (.list (vs.map fd))), w13, ?_⟩
  unfold xb_law_2
  refine h1 (run_nx (st1 := EL T xs ns m ps rs (.v (.d (.int t))) (.v (.d (.list (ws.map fd)))) (.v (.d (.str sh))) z9 z10 z11 z12 z13) ?_ (run_nx (st1 := EL T xs ns m ps rs (.v (.d (.int t))) (.v (.d (.list (ws.map fd)))) (.v (.d (.str sh))) (.v (.d (.list (due.map fd)))) z10 z11 z12 z13) ?_ (run_nx (st1 := EL T xs ns m ps rs (.v (.d (.int t))) (.v (.d (.list (ws.map fd)))) (.v (.d (.str sh))) (.v (.d (.list (due.map fd)))) (.ol (due.map fd)) z11 z12 z13) ?_ (run_nx (ite_f ?_ rfl) (run_nx (st1 := EL T xs ns m ps rs (.v (.d (.int t))) (.v (.d (.list (ws.map fd)))) (.v (.d (.str sh))) (.v (.d (.list (due.map fd)))) (.ol (due.map fd ++ [.int 1])) z11 z12 z13) ?_ (run_nx (ite_f ?_ rfl) (run_nx (for_nx (ds := [ws ++ [(1, 2)], l].map fun l => PyData.list (l.map fd)) ?_ hlp) (h2 fin))))))))
  all_goals clear h1 h2 fin hlp
  · unfold EL
    clear b1 b2 b3 b4 b5 b6 c1 c2 c3 c4 hct hca hap hn R ht hcnt W V hv0 hdue hdc
    walk_at "evh"
  · unfold EL at *
    clear rp b1 b2 b3 b4 b5 b6 c1 c2 c3 c4 hct hca hap hn R ht hcnt W V hv0 hdue
    walk_at "evh"
  · unfold EL
    unfold fvs pgm at b1
    clear rp b2 b3 b4 b5 b6 c1 c2 c3 c4 hct hca hap hn R ht hcnt W V hv0 hdue hdc
    walk_at "evh"
  · unfold EL
    unfold fvs pgm at b2
    unfold fvs at b3
    clear b1 b4 b5 b6 c4 hct hca hap hn R ht hcnt W V hv0 hdue hdc
    walk_at "evh"
  · unfold EL
    clear rp b1 b2 b3 b4 b5 b6 c1 c2 c3 c4 hct hca hn R ht hcnt W V hv0 hdue hdc
    walk_at "evh"
  · unfold EL
    unfold fvs pgm at b4
    unfold fvs at b5
    clear rp b1 b2 b3 b6 c1 c2 c3 hct hca hap hn R ht hcnt W V hv0 hdue hdc
    walk_at "evh"
  · have e : [ws ++ [(1, 2)], l].map (fun l => PyData.list (l.map fd)) = [.list (ws.map fd ++ [fd (1, 2)]), .list (l.map fd)] := by simp
    rw [e]
    unfold EL
    clear rp b1 b2 b3 b4 b5 b6 c1 c2 c3 c4 hap hn R ht hcnt W V hv0 hdue hdc e
    walk_at "evh"
    try rfl
end
end Q

set_option Elab.async false
set_option linter.all false
set_option maxRecDepth 100000
set_option maxHeartbeats 4000000
namespace Q
open PySem PySem.Spec PyProof.Rows L2 Z R QF
local macro_rules | `(tactic| walk_at "ds") => `(tactic| first | assumption | decide | omega | exact ⟨by decide, by decide⟩ | exact ⟨by omega, by omega⟩ | exact div_lit ⟨by omega, by omega⟩ | exact mul_r (by omega) | exact mul_l (by omega))
local macro_rules | `(tactic| walk_at "ev") => `(tactic| simp (disch := walk_at "ds") only [bind_ok, bind_ex, bind_no, oc_k, oc_x, oc_n, of_some, of_none, okV_ok, okV_ex, okV_no, bOf_b, iOf_i, asL_l, asS_l, asS_s, lOf_l, var_ev, var_el, var_es, int_ev, bool_ev, non_ev, str_ev, av_f, av_t, op_ev, op_el, op_es, opN_ev, e_ev, e_el, e_es, neg_ev, bv_eq, iv_eq, andV_ev, orV_ev, notV_ev, ife_ev, ife_el, ife_es, chain_ev, inK_ev, setfld_ev, tup_ev, dev_eq, avD_nil, avD_cons, lst_ev, anil_ev, acons_ev, bi_ev, biN_ev, call_ev, call_el, call_es, callN_ev, meth_ev, meth_el, meth_es, methN_ev, make_ev, fld_ev, fld_el, fld_es, test_ev, B_ev, and_ev, or_ev, not_ev, truthL_ev, ifeT_ev, yes_ev, onone_ev, osome_ev, sl_ev, slS_ev, lend_ev, blank_ev, ilist_ev, irng1_ev, irng2_ev, avI1_i, avI2_i, ienum_ev, izip_ev, gname_ev, gnil_ev, gcons_ev, gtup_ev, glst_ev, lc_ev, nx_ev, brk_ev, cnt_ev, seq_ev, set_ev, setN_ev, asg_ev, par_ev, aug_ev, seti_ev, app_ev, ite_ev, ret_ev, retN_ev, retO_ev, retV_ev, drop_ev, frz_ev, for_ev, lp_nil, raise_ev, try_ev, add_ka, add_kb, add_f, sub_ka, sub_kb, sub_f, band_ka, band_kb, band_f, lt_ka, lt_kb, lt_f, le_ka, le_kb, le_f, gt_ka, gt_kb, gt_f, ge_ka, ge_kb, ge_f, mul_ka, mul_kb, div_ka, div_kb, divU_ka, divU_kb, mod_ka, mod_kb, pow_ka, pow_kb, shl_ka, shl_kb, shr_ka, shr_kb, eq_ka, eq_kb, ne_ka, ne_kb, eqD_ka, eqD_kb, neD_ka, neD_kb, isN_ka, isN_kb, notN_ka, notN_kb, isB_ka, isB_kb, notB_ka, notB_kb, ixS_ka, ixS_kb, ixT_ka, ixT_kb, neL_ka, neL_kb, ixL_ka, ixL_kb, inL_ka, inL_kb, notInL_ka, notInL_kb, cat_ka, cat_kb, rep_ka, rep_kb, eq_i, eq_s, ne_i, ne_s, isB_f, notB_f, isN_f, notN_f, ixL_f, ixT_f, ixS_f, len_f, lenS_f, abs_f, min2_f, max2_f, int_f, intB_f, gcd_f, listN_f, runX_eq, res_rt, res_ro, res_nx, res_xc, at0, at1, at2, rng_if, lcL_nil, mul_f, div_f, divU_f, mod_f, pow_f, shl_f, shr_f, cat_f, lcm_f, repr_f, List.getElem?_cons_zero, List.getElem?_cons_succ, List.set_cons_zero, List.set_cons_succ, List.length_cons, List.length_nil, Nat.reduceAdd, Nat.reduceLT, Nat.reduceLeDiff, Nat.reduceEqDiff, if_true, if_false, Option.map_some, Option.map_none, Option.bind_some, Option.bind_none, reduceIte, decide_true, decide_false, R.start, avS, R.frz, at0, at1, at2, allXb, Sv.isX, List.all_cons, List.all_nil, Bool.and_true, Bool.true_and, Bool.and_false, Bool.false_and, List.flatten_cons, List.map_cons, List.map_nil, List.cons_append, List.nil_append, List.replicate_succ, List.replicate_zero, Bool.not_true, Bool.not_false, Nat.reduceMul, Nat.reduceSub, Nat.zero_add, and_self, and_true, true_and, and_false, false_and])
local macro_rules | `(tactic| walk_at "evh") => `(tactic| simp (disch := walk_at "ds") only [bind_ok, bind_ex, bind_no, oc_k, oc_x, oc_n, of_some, of_none, okV_ok, okV_ex, okV_no, bOf_b, iOf_i, asL_l, asS_l, asS_s, lOf_l, var_ev, var_el, var_es, int_ev, bool_ev, non_ev, str_ev, av_f, av_t, op_ev, op_el, op_es, opN_ev, e_ev, e_el, e_es, neg_ev, bv_eq, iv_eq, andV_ev, orV_ev, notV_ev, ife_ev, ife_el, ife_es, chain_ev, inK_ev, setfld_ev, tup_ev, dev_eq, avD_nil, avD_cons, lst_ev, anil_ev, acons_ev, bi_ev, biN_ev, call_ev, call_el, call_es, callN_ev, meth_ev, meth_el, meth_es, methN_ev, make_ev, fld_ev, fld_el, fld_es, test_ev, B_ev, and_ev, or_ev, not_ev, truthL_ev, ifeT_ev, yes_ev, onone_ev, osome_ev, sl_ev, slS_ev, lend_ev, blank_ev, ilist_ev, irng1_ev, irng2_ev, avI1_i, avI2_i, ienum_ev, izip_ev, gname_ev, gnil_ev, gcons_ev, gtup_ev, glst_ev, lc_ev, nx_ev, brk_ev, cnt_ev, seq_ev, set_ev, setN_ev, asg_ev, par_ev, aug_ev, seti_ev, app_ev, ite_ev, ret_ev, retN_ev, retO_ev, retV_ev, drop_ev, frz_ev, for_ev, lp_nil, raise_ev, try_ev, add_ka, add_kb, add_f, sub_ka, sub_kb, sub_f, band_ka, band_kb, band_f, lt_ka, lt_kb, lt_f, le_ka, le_kb, le_f, gt_ka, gt_kb, gt_f, ge_ka, ge_kb, ge_f, mul_ka, mul_kb, div_ka, div_kb, divU_ka, divU_kb, mod_ka, mod_kb, pow_ka, pow_kb, shl_ka, shl_kb, shr_ka, shr_kb, eq_ka, eq_kb, ne_ka, ne_kb, eqD_ka, eqD_kb, neD_ka, neD_kb, isN_ka, isN_kb, notN_ka, notN_kb, isB_ka, isB_kb, notB_ka, notB_kb, ixS_ka, ixS_kb, ixT_ka, ixT_kb, neL_ka, neL_kb, ixL_ka, ixL_kb, inL_ka, inL_kb, notInL_ka, notInL_kb, cat_ka, cat_kb, rep_ka, rep_kb, eq_i, eq_s, ne_i, ne_s, isB_f, notB_f, isN_f, notN_f, ixL_f, ixT_f, ixS_f, len_f, lenS_f, abs_f, min2_f, max2_f, int_f, intB_f, gcd_f, listN_f, runX_eq, res_rt, res_ro, res_nx, res_xc, at0, at1, at2, rng_if, lcL_nil, mul_f, div_f, divU_f, mod_f, pow_f, shl_f, shr_f, cat_f, lcm_f, repr_f, List.getElem?_cons_zero, List.getElem?_cons_succ, List.set_cons_zero, List.set_cons_succ, List.length_cons, List.length_nil, Nat.reduceAdd, Nat.reduceLT, Nat.reduceLeDiff, Nat.reduceEqDiff, if_true, if_false, Option.map_some, Option.map_none, Option.bind_some, Option.bind_none, reduceIte, decide_true, decide_false, R.start, avS, R.frz, at0, at1, at2, allXb, Sv.isX, List.all_cons, List.all_nil, Bool.and_true, Bool.true_and, Bool.and_false, Bool.false_and, List.flatten_cons, List.map_cons, List.map_nil, List.cons_append, List.nil_append, List.replicate_succ, List.replicate_zero, Bool.not_true, Bool.not_false, Nat.reduceMul, Nat.reduceSub, Nat.zero_add, and_self, and_true, true_and, and_false, false_and, *])
variable {K : PySem.W.Frag} {mg : Str → Option Value} (T : Tx K mg)
theorem law_true : ∀ xs : List Int, xs.length ≤ 63 → runX (xs_law T) false 18 [.v (.s xs)] = .ok (.d (.bool true)) := by
  intro xs hx
  obtain ⟨ns, hn, h1⟩ := f_numbers T hx (many := 160) (by decide)
  replace h1 : (fn_law_numbers T).f [.v (.s xs), iv 160] = .ok (.d (.list (ns.map .int))) := h1
  have m1 := fnm_law_numbers T
  obtain ⟨v0, -, a0, b0, c0⟩ := hn.at_ (i := 0) (by decide) (by decide)
  obtain ⟨v1, -, a1, b1, c1⟩ := hn.at_ (i := 1) (by decide) (by decide)
  obtain ⟨m, hm⟩ : ∃ m : Nat, (m : Int) = 1 + v0 % 5 := ⟨(1 + v0 % 5).toNat, by omega⟩
  obtain ⟨cnt, hcnt⟩ : ∃ m : Nat, (m : Int) = v1 % 7 := ⟨(v1 % 7).toNat, by omega⟩
  have hm5 : 1 ≤ m ∧ m ≤ 5 := by omega
  obtain ⟨rs, R, hrl, h2⟩ := f_drawn T hn hm5 (count := cnt) (by omega)
  rw [hcnt] at h2
  have m2 := fnm_law_drawn T
  have hix : ∀ j : Nat, j < m → atI (ns.map PyData.int) (10 + (0 + (j : Int))) = some (.int (ns.getD (10 + j) 0)) := by
    intro j hj
    have h1 : 10 + j < ns.length := by rw [hn.len]; omega
    refine atI_in (by omega) ?_
    rw [show ((10 : Int) + (0 + (j : Int))).toNat = 10 + j by omega, List.getD_eq_getElem?_getD, List.getElem?_eq_getElem h1]
    rfl
  obtain ⟨ps, hps⟩ : ∃ ps, ps = (List.range m).map fun j => ns.getD (10 + j) 0 % 9 - 4 := ⟨_, rfl⟩
  have hpl : ps.length = m := by rw [hps]; simp
  have hc : lcL (K := K) (.name 14) .yes (.op O2.sub (.op O2.mod (.bi Bi.int (.cons false (.op O2.ixL (.var 1) (.op O2.add (.int 10) (.var 14))) .nil)) (.int 9)) (.int 4)) [.v (.s xs), .v (.d (.list (ns.map .int))), .v (.d (.int m)), .x, .x, .x, .x, .x, .x, .x, .x, .x, .x, .x, .x, .x, .x, .x, .x] (irange 0 m) = some (ps.map .int) := by
    rw [hps, List.map_map]
    refine lcL_map (en := fun k : Nat => PyData.int (0 + (k : Int))) (xs := List.range m) fun j hj => ?_
    have h := hix j (List.mem_range.mp hj)
    show lcOne _ _ _ _ _ = some (some (PyData.int (ns.getD (10 + j) 0 % 9 - 4)))
    generalize ns.getD (10 + j) 0 = e at h ⊢
    generalize (0 + (j : Int)) = j' at h ⊢
    rw [lcOne_eq]
    clear h1 h2 hn a0 a1 b0 b1 c0 c1 hm hcnt hm5 R hix hps hpl hj hx
    walk_at "evh"
    try rfl
  have hg : ((XG.name 14 : XG K).T.all fun i => decide (i ∈ [14])) = true := rfl
  have hr : ((m : Nat) : Int).natAbs < 4611686018427387904 := by omega
  have hr2 : (irange 0 m).length ≤ 100000 := by rw [irange_len]; omega
  have htn : ((m : Nat) : Int).toNat = m := rfl
  have h3 := f_init T hpl (by omega) R
  have m3 := fnim_Program T
  refine runX_of ?_
  unfold xs_law
  refine run_nx (st1 := [.v (.s xs), .v (.d (.list (ns.map .int))), .x, .x, .x, .x, .x, .x, .x, .x, .x, .x, .x, .x, .x, .x, .x, .x, .x]) ?_ (run_nx (st1 := [.v (.s xs), .v (.d (.list (ns.map .int))), .v (.d (.int m)), .x, .x, .x, .x, .x, .x, .x, .x, .x, .x, .x, .x, .x, .x, .x, .x]) ?_ (run_nx (st1 := [.v (.s xs), .v (.d (.list (ns.map .int))), .v (.d (.int m)), .v (.d (.list (ps.map .int))), .x, .x, .x, .x, .x, .x, .x, .x, .x, .x, .x, .x, .x, .x, .x]) ?_ (run_nx (st1 := [.v (.s xs), .v (.d (.list (ns.map .int))), .v (.d (.int m)), .v (.d (.list (ps.map .int))), .v (.d (.list (rs.map enR))), .x, .x, .x, .x, .x, .x, .x, .x, .x, .x, .x, .x, .x, .x]) ?_ (run_nx (st1 := EL T xs ns m ps rs .x .x .x .x .x .x .x .x) ?_ ?_))))
  · clear hn hx h2 h3 hc a0 a1 b0 b1 c0 c1 hm hcnt hm5 R hix hps hpl hr hr2 htn
    walk_at "evh"
  · rw [hm]
    clear hn hx h1 h2 h3 hc a1 b0 b1 c0 c1 hm hcnt hm5 R hix hps hpl hr hr2 htn
    walk_at "evh"
  · clear hn hx h1 h2 h3 a0 a1 b0 b1 c0 c1 hm hcnt hm5 R hix hps hpl
    walk_at "evh"
  · unfold nv at h2
    clear hn hx h1 h3 hc a0 b0 b1 c0 c1 hm hcnt hm5 R hix hps hpl hr hr2 htn
    walk_at "evh"
  · unfold EL pgv
    clear hn hx h1 h2 hc a0 a1 b0 b1 c0 c1 hm hcnt hm5 R hix hps hpl hr hr2 htn
    walk_at "evh"
    try rfl
  clear h1 h2 h3 hc a0 a1 hix hps hr hr2
  obtain ⟨y, -, hl⟩ := lp_ex (K := K) (g := .name 6) (s := xb_law_2 T) (en := fun k : Nat => PyData.int (0 + (k : Int))) (xs := List.range 5) (fun y : Sv × Sv × Sv × Sv × Sv × Sv × Sv × Sv => EL T xs ns m ps rs y.1 y.2.1 y.2.2.1 y.2.2.2.1 y.2.2.2.2.1 y.2.2.2.2.2.1 y.2.2.2.2.2.2.1 y.2.2.2.2.2.2.2) (fun _ _ => True) (x0 := (.x, .x, .x, .x, .x, .x, .x, .x)) trivial (by
    rintro pre k post ⟨z6, z7, z8, z9, z10, z11, z12, z13⟩ e -
    have hk : k < 5 := List.mem_range.mp (by rw [e]; simp)
    obtain ⟨w7, w8, w9, w10, w11, w12, w13, h⟩ := turn T (xs := xs) hn hpl hm5 R (t := 0 + (k : Int)) (by omega) (z7 := z7) (z8 := z8) (z9 := z9) (z10 := z10) (z11 := z11) (z12 := z12) (z13 := z13)
    exact ⟨(.v (.d (.int (0 + (k : Int)))), w7, w8, w9, w10, w11, w12, w13), trivial, _, by unfold EL; walk_at "ev", .inl h⟩)
  refine run_nx (for_nx (ds := irange 0 5) ?_ hl) ?_
  · unfold EL
    walk_at "ev"
    rfl
  · unfold EL
    walk_at "ev"
end Q

set_option Elab.async false
set_option linter.all false
set_option maxRecDepth 100000
set_option maxHeartbeats 4000000
namespace Q
open PySem PySem.Spec PyProof.Rows L2 Z R
def spLaw (K : PySem.W.Frag) : Sp := SpA (α := List Int) (fun xs => xs.length ≤ 63) (fun xs => [pu (scR K xs)]) (fun _ => .ok (dB true))
section
variable {P : Program} {w : World} {K : PySem.W.Frag} {mg : Str → Option Value} {base : Heap}
theorem ok_law (T : Tx K mg) : RunAt P w K mg base (L2.CX P w) 7 T.f_law T.fd_law ["script"] (spLaw K) := by
  refine fun_at T.F_law sc_law (SpA.len fun _ => rfl) (fun cdv s H vs Q E hr hgd h => ⟨_, (pss_cons (ps_set (i := 1) sc_law.nd rfl (by first | exact Or.inl rfl | exact Or.inr rfl) (pe_call (ok_law_numbers T) (hr.mono (by decide)) (by rfl) T.g_law_numbers T.F_law_numbers.kp T.b_law_numbers .nil (passes_call (takes_of rfl rfl rfl rfl) fun _ _ _ _ z => z) (pa_cons (pv 0) (pa_cons pe_int pa_nil))))
      (pss_cons (ps_set (i := 2) sc_law.nd rfl (by first | exact Or.inl rfl | exact Or.inr rfl) (pe_op op_add pe_int (pe_op op_mod (pe_callTy call_int1 (by rfl) T.z_int (by decide +kernel) (pa_cons (pe_ix (kix_list K) (pv 1) pe_int (fun _ _ => rfl)) pa_nil)) pe_int)))
      (pss_cons (ps_setLc (i := 3) (own := [("j", 14)]) (g := (gName 14)) rfl sc_law.nd rfl rfl (sw_true rfl rfl rfl (by decide +kernel)) (pi_range1 (by rfl) T.z_range (pa_cons (pv 2) pa_nil)) (blkOk_by (N := N_law) (sc := defScope s_law) (by decide +kernel)) (fun _ _ _ _ _ => (pg_name (i := 14) sc_law.nd rfl (by first | exact Or.inl rfl | exact Or.inr rfl))) (fun _ _ _ _ _ => pts_nil) (fun _ _ _ _ _ => (pe_op op_sub (pe_op op_mod (pe_callTy call_int1 (by rfl) T.z_int (by decide +kernel) (pa_cons (pe_ix (kix_list K) (pv 1) (pe_op op_add pe_int (pv 14)) (fun _ _ => rfl)) pa_nil)) pe_int) pe_int)))
      (pss_cons (ps_set (i := 4) sc_law.nd rfl (by first | exact Or.inl rfl | exact Or.inr rfl) (pe_call (ok_law_drawn T) (hr.mono (by decide)) (by rfl) T.g_law_drawn T.F_law_drawn.kp T.b_law_drawn .nil (passes_call (takes_of rfl rfl rfl rfl) fun _ _ _ _ z => z) (pa_cons (pv 1) (pa_cons pe_int (pa_cons (pv 2) (pa_cons (pe_op op_mod (pe_callTy call_int1 (by rfl) T.z_int (by decide +kernel) (pa_cons (pe_ix (kix_list K) (pv 1) pe_int (fun _ _ => rfl)) pa_nil)) pe_int) (pa_cons pe_int pa_nil)))))))
      (pss_cons (ps_set (i := 5) sc_law.nd rfl (by first | exact Or.inl rfl | exact Or.inr rfl) (pe_make T.mk_Program (ok_Program___init__ T) (hr.mono (by decide)) (by rfl) T.g_Program T.b_Program___init__ .nil (passes_call (takes_of rfl rfl rfl rfl) fun _ _ _ _ z => z) (pa_cons (pv 3) (pa_cons (pv 4) pa_nil))))
      (pss_cons (ps_for (passes_of rfl) rfl (pi_range1 (by rfl) T.z_range (pa_cons pe_int pa_nil)) (pg_name (i := 6) sc_law.nd rfl (by first | exact Or.inl rfl | exact Or.inr rfl))
        (pss_cons (ps_set (i := 7) sc_law.nd rfl (by first | exact Or.inl rfl | exact Or.inr rfl) (pe_lc (own := [("k", 15)]) (g := (gName 15)) rfl sc_law.nd (pi_range1 (by rfl) T.z_range (pa_cons (pe_callB (kcall_len K) (by rfl) T.z_len PySem.boot_len (pa_cons (pv 4) pa_nil)) pa_nil)) (blkOk_by (N := N_law) (sc := defScope s_law) (by decide +kernel)) (fun _ _ _ _ _ => (pg_name (i := 15) sc_law.nd rfl (by first | exact Or.inl rfl | exact Or.inr rfl))) (fun _ _ _ _ _ => pts_nil) (fun _ _ _ _ _ => (pe_call (ok_law_some T) (hr.mono (by decide)) (by rfl) T.g_law_some T.F_law_some.kp T.b_law_some .nil pass_no (pa_cons (pv 1) (pa_cons pe_int (pa_cons (pe_op op_add (pe_op op_mulU pe_int (pv 6)) (pv 15)) pa_nil)))))))
      (pss_cons (ps_if (pt_cmpR op_gt (pv 6) pe_int (nomark _))
        (pss_one (ps_set (i := 7) sc_law.nd rfl (by first | exact Or.inl rfl | exact Or.inr rfl) (pe_call (ok_law_signed T) (hr.mono (by decide)) (by rfl) T.g_law_signed T.F_law_signed.kp T.b_law_signed .nil (passes_call (takes_of rfl rfl rfl rfl) fun _ _ _ _ z => z) (pa_cons (pv 4) (pa_cons (pv 7) pa_nil)))))
        pss_nil)
      (pss_cons (ps_set (i := 8) sc_law.nd rfl (by first | exact Or.inl rfl | exact Or.inr rfl) (pe_callB (call_repr hgd (Z.room70 hr)) (by rfl) T.z_repr (by decide +kernel) (pa_cons (pv 7) pa_nil)))
      (pss_cons (ps_setLc (i := 9) (own := [("j", 14)]) (g := (gName 14)) rfl sc_law.nd rfl rfl (sw_true rfl rfl rfl (by decide +kernel)) (pi_range1 (by rfl) T.z_range (pa_cons (pv 2) pa_nil)) (blkOk_by (N := N_law) (sc := defScope s_law) (by decide +kernel)) (fun _ _ _ _ _ => (pg_name (i := 14) sc_law.nd rfl (by first | exact Or.inl rfl | exact Or.inr rfl))) (fun _ _ _ _ _ => pts_nil) (fun _ _ _ _ _ => (pe_call (ok_law_load T) (hr.mono (by decide)) (by rfl) T.g_law_load T.F_law_load.kp T.b_law_load .nil pass_no (pa_cons (pv 4) (pa_cons (pv 7) (pa_cons (pv 14) pa_nil))))))
      (pss_cons (ps_set (i := 10) sc_law.nd rfl (by first | exact Or.inl rfl | exact Or.inr rfl) (pe_call (ok_loads T) (hr.mono (by decide)) (by rfl) T.g_loads T.F_loads.kp T.b_loads .nil (passes_call (takes_of rfl rfl rfl rfl) fun _ _ _ _ z => z) (pa_cons (pv 5) (pa_cons (pv 7) pa_nil))))
      (pss_cons (ps_if (PW.pt (pw_or (pt_cmpR (kop_neD K (Z.room64 hr)) (pv 10) (pv 9) (nomark _)) (pw_or (pt_cmpR (kop_neD K (Z.room64 hr)) (pe_call (ok_gain T) (hr.mono (by decide)) (by rfl) T.g_gain T.F_gain.kp T.b_gain .nil (passes_call (takes_of rfl rfl rfl rfl) fun _ _ _ _ z => z) (pa_cons (pv 5) (pa_cons (pv 7) pa_nil))) (pe_call (ok_law_gain T) (hr.mono (by decide)) (by rfl) T.g_law_gain T.F_law_gain.kp T.b_law_gain .nil (passes_call (takes_of rfl rfl rfl rfl) fun _ _ _ _ z => z) (pa_cons (pv 4) (pa_cons (pv 7) pa_nil))) (nomark _)) (pw_or1 (pt_cmpR op_ne (pe_callB (call_repr hgd (Z.room70 hr)) (by rfl) T.z_repr (by decide +kernel) (pa_cons (pv 7) pa_nil)) (pv 8) (nomark _))))))
        (pss_one (ps_ret pe_bl))
        pss_nil)
      (pss_cons (ps_expr (pe_bm PySem.F.plainAttrs_list PySem.F.slot_list_append PySem.F.type_list_append mt_append (pv 10) (pa_cons pe_int pa_nil)))
      (pss_cons (ps_if (pt_cmpR (kop_neD K (Z.room64 hr)) (pe_call (ok_are_fit T) (hr.mono (by decide)) (by rfl) T.g_are_fit T.F_are_fit.kp T.b_are_fit .nil (passes_call (takes_of rfl rfl rfl rfl) fun _ _ _ _ z => z) (pa_cons (pv 5) (pa_cons (pv 7) pa_nil))) (pe_call (ok_law_fit T) (hr.mono (by decide)) (by rfl) T.g_law_fit T.F_law_fit.kp T.b_law_fit .nil (passes_call (takes_of rfl rfl rfl rfl) fun _ _ _ _ z => z) (pa_cons (pv 4) (pa_cons (pv 7) pa_nil))) (nomark _))
        (pss_one (ps_ret pe_bl))
        pss_nil)
      (pss_cons (ps_for (passes_of rfl) rfl (kpi_list K (pe_lst (pa_cons (pe_op op_cat (pv 7) (pe_lst (pa_cons (pe_tup (pa_cons pe_int (pa_cons pe_int pa_nil))) pa_nil))) (pa_cons (pe_slice (ksl_list K) (pv 7) (po_some pe_int) po_none) pa_nil)))) (pg_name (i := 11) sc_law.nd rfl (by first | exact Or.inl rfl | exact Or.inr rfl))
        (pss_one (ps_if (pt_cmpR op_ne (pe_callB (kcall_len K) (by rfl) T.z_len PySem.boot_len (pa_cons (pv 11) pa_nil)) (pe_callB (kcall_len K) (by rfl) T.z_len PySem.boot_len (pa_cons (pv 4) pa_nil)) (nomark _))
        (pss_cons (ps_if (pt_cmpR op_notBl (pe_call (ok_are_fit T) (hr.mono (by decide)) (by rfl) T.g_are_fit T.F_are_fit.kp T.b_are_fit .nil (passes_call (takes_of rfl rfl rfl rfl) fun _ _ _ _ z => z) (pa_cons (pv 5) (pa_cons (pv 11) pa_nil))) pe_bl (nomark _))
        (pss_one (ps_ret pe_bl))
        pss_nil)
      (pss_one (ps_if (PW.pt (pw_or (pt_cmpR (kop_neD K (Z.room64 hr)) (pe_call (ok_law_refused T) (hr.mono (by decide)) (by rfl) T.g_law_refused T.F_law_refused.kp T.b_law_refused .nil (passes_call (takes_of rfl rfl rfl rfl) fun _ _ _ _ z => z) (pa_cons pe_int (pa_cons (pv 5) (pa_cons (pv 11) pa_nil)))) (pe_tup (pa_cons pe_bl (pa_cons pe_int pa_nil))) (nomark _)) (pw_or1 (pt_cmpR (kop_neD K (Z.room64 hr)) (pe_call (ok_law_refused T) (hr.mono (by decide)) (by rfl) T.g_law_refused T.F_law_refused.kp T.b_law_refused .nil (passes_call (takes_of rfl rfl rfl rfl) fun _ _ _ _ z => z) (pa_cons pe_int (pa_cons (pv 5) (pa_cons (pv 11) pa_nil)))) (pe_tup (pa_cons pe_bl (pa_cons pe_int pa_nil))) (nomark _)))))
        (pss_one (ps_ret pe_bl))
        pss_nil)))
        pss_nil)))
      (pss_cons (ps_setLc (i := 12) (own := [("j", 14)]) (g := (gName 14)) rfl sc_law.nd rfl rfl (sw_true rfl rfl rfl (by decide +kernel)) (pi_range1 (by rfl) T.z_range (pa_cons (pv 2) pa_nil)) (blkOk_by (N := N_law) (sc := defScope s_law) (by decide +kernel)) (fun _ _ _ _ _ => (pg_name (i := 14) sc_law.nd rfl (by first | exact Or.inl rfl | exact Or.inr rfl))) (fun _ _ _ _ _ => pts_nil) (fun _ _ _ _ _ => (pe_call (ok_law_some T) (hr.mono (by decide)) (by rfl) T.g_law_some T.F_law_some.kp T.b_law_some .nil pass_no (pa_cons (pv 1) (pa_cons pe_int (pa_cons (pe_op op_add (pe_op op_mulU pe_int (pv 6)) (pv 14)) pa_nil))))))
      (pss_cons (ps_setLc (i := 12) (own := [("one", 16)]) (g := (gName 16)) rfl sc_law.nd rfl rfl (sw_true rfl rfl rfl (by decide +kernel)) (kpi_list K (pv 12)) (blkOk_by (N := N_law) (sc := defScope s_law) (by decide +kernel)) (fun _ _ _ _ _ => (pg_name (i := 16) sc_law.nd rfl (by first | exact Or.inl rfl | exact Or.inr rfl))) (fun _ _ _ _ _ => pts_nil) (fun _ _ _ _ _ => (pe_tup (pa_cons (pe_callB call_abs (by rfl) T.z_abs (by decide +kernel) (pa_cons (pe_ix (kix_tup K) (pv 16) pe_int (fun _ _ => rfl)) pa_nil)) (pa_cons (pe_ix (kix_tup K) (pv 16) pe_int (fun _ _ => rfl)) pa_nil)))))
      (pss_one (ps_if (PW.pt (pw_and (pt_val (pe_call (ok_law_fit T) (hr.mono (by decide)) (by rfl) T.g_law_fit T.F_law_fit.kp T.b_law_fit .nil (passes_call (takes_of rfl rfl rfl rfl) fun _ _ _ _ z => z) (pa_cons (pv 4) (pa_cons (pv 7) pa_nil)))) (pw_and1 (pt_val (pe_call (ok_law_solution T) (hr.mono (by decide)) (by rfl) T.g_law_solution T.F_law_solution.kp T.b_law_solution .nil (passes_call (takes_of rfl rfl rfl rfl) fun _ _ _ _ z => z) (pa_cons (pv 2) (pa_cons (pv 4) (pa_cons (pv 12) pa_nil))))))))
        (pss_cons (ps_set (i := 13) sc_law.nd rfl (by first | exact Or.inl rfl | exact Or.inr rfl) (pe_call (ok_law_added T) (hr.mono (by decide)) (by rfl) T.g_law_added T.F_law_added.kp T.b_law_added .nil (passes_call (takes_of rfl rfl rfl rfl) fun _ _ _ _ z => z) (pa_cons (pe_lc (own := [("load", 17), ("value", 18)]) (g := (gTup K 2 (gCons (gName 17) (gCons (gName 18) gNil)))) rfl sc_law.nd (pi_zip (by rfl) T.z_zip (pa_cons (pv 9) (pa_cons (pv 12) pa_nil))) (blkOk_by (N := N_law) (sc := defScope s_law) (by decide +kernel)) (fun _ _ _ _ _ => (kpg_tup K (n := 2) rfl (pgs_cons (pg_name (i := 17) sc_law.nd rfl (by first | exact Or.inl rfl | exact Or.inr rfl)) (pgs_cons (pg_name (i := 18) sc_law.nd rfl (by first | exact Or.inl rfl | exact Or.inr rfl)) pgs_nil)))) (fun _ _ _ _ _ => pts_nil) (fun _ _ _ _ _ => (pe_call (ok_law_times T) (hr.mono (by decide)) (by rfl) T.g_law_times T.F_law_times.kp T.b_law_times .nil pass_no (pa_cons (pv 17) (pa_cons (pv 18) pa_nil))))) pa_nil)))
      (pss_one (ps_if (pt_val (pe_call (ok_law_less T) (hr.mono (by decide)) (by rfl) T.g_law_less T.F_law_less.kp T.b_law_less .nil (passes_call (takes_of rfl rfl rfl rfl) fun _ _ _ _ z => z) (pa_cons (pv 13) (pa_cons (pe_call (ok_gain T) (hr.mono (by decide)) (by rfl) T.g_gain T.F_gain.kp T.b_gain .nil (passes_call (takes_of rfl rfl rfl rfl) fun _ _ _ _ z => z) (pa_cons (pv 5) (pa_cons (pv 7) pa_nil))) pa_nil))))
        (pss_one (ps_ret pe_bl))
        pss_nil)))
        pss_nil))))))))))))))
      (pss_one (ps_ret pe_bl)))))))), ?_⟩)
  exact R.law_run (xs_law T) N_law h (law_true T)
end
theorem all_mk {P : Program} {w : World} {K : PySem.W.Frag} {h : Heap} {mg : Str → Option Value} {fa : Addr} (X : K.In h) (G : h.Ns mainGlobals mg) (hfa : mg "law" = some (.ref fa))
    {c_Program c_WebError c_OutOfRange c_TooMany c_ZeroDivisor c_BadRelation c_WrongSize f_WebError___init__ f_fraction f_scaled f_Program___init__ f_Program_count f_Program_rows f_dot f_is_fit f_are_fit f_scaled_for f_loads f_gain f_law_numbers f_law_lowest f_law_plus f_law_times f_law_less f_law_added f_law_weighted f_law_drawn f_law_fits f_law_solution f_law_fit f_law_load f_law_gain f_law_some f_law_refused f_law_signed f_law : Addr}
    {od_WebError___init__ an_WebError___init__ od_fraction an_fraction od_scaled an_scaled od_Program___init__ an_Program___init__ od_Program_count an_Program_count od_Program_rows an_Program_rows od_dot an_dot od_is_fit an_is_fit od_are_fit an_are_fit od_scaled_for an_scaled_for od_loads an_loads od_gain an_gain od_law_numbers an_law_numbers od_law_lowest an_law_lowest od_law_plus an_law_plus od_law_times an_law_times od_law_less an_law_less od_law_added an_law_added od_law_weighted an_law_weighted od_law_drawn an_law_drawn od_law_fits an_law_fits od_law_solution an_law_solution od_law_fit an_law_fit od_law_load an_law_load od_law_gain an_law_gain od_law_some an_law_some od_law_refused an_law_refused od_law_signed an_law_signed od_law an_law : Option Addr} {sl_WebError___init__ sl_fraction sl_scaled sl_Program___init__ sl_Program_count sl_Program_rows sl_dot sl_is_fit sl_are_fit sl_scaled_for sl_loads sl_gain sl_law_numbers sl_law_lowest sl_law_plus sl_law_times sl_law_less sl_law_added sl_law_weighted sl_law_drawn sl_law_fits sl_law_solution sl_law_fit sl_law_load sl_law_gain sl_law_some sl_law_refused sl_law_signed sl_law : Array (Option Value)} {oc_WebError___init__ kV_WebError___init__ dc_WebError___init__ pm_WebError___init__ cd_WebError___init__ ct_WebError___init__ oc_fraction kV_fraction dc_fraction pm_fraction cd_fraction ct_fraction oc_scaled kV_scaled dc_scaled pm_scaled cd_scaled ct_scaled oc_Program___init__ kV_Program___init__ dc_Program___init__ pm_Program___init__ cd_Program___init__ ct_Program___init__ oc_Program_count kV_Program_count dc_Program_count pm_Program_count cd_Program_count ct_Program_count oc_Program_rows kV_Program_rows dc_Program_rows pm_Program_rows cd_Program_rows ct_Program_rows oc_dot kV_dot dc_dot pm_dot cd_dot ct_dot oc_is_fit kV_is_fit dc_is_fit pm_is_fit cd_is_fit ct_is_fit oc_are_fit kV_are_fit dc_are_fit pm_are_fit cd_are_fit ct_are_fit oc_scaled_for kV_scaled_for dc_scaled_for pm_scaled_for cd_scaled_for ct_scaled_for oc_loads kV_loads dc_loads pm_loads cd_loads ct_loads oc_gain kV_gain dc_gain pm_gain cd_gain ct_gain oc_law_numbers kV_law_numbers dc_law_numbers pm_law_numbers cd_law_numbers ct_law_numbers oc_law_lowest kV_law_lowest dc_law_lowest pm_law_lowest cd_law_lowest ct_law_lowest oc_law_plus kV_law_plus dc_law_plus pm_law_plus cd_law_plus ct_law_plus oc_law_times kV_law_times dc_law_times pm_law_times cd_law_times ct_law_times oc_law_less kV_law_less dc_law_less pm_law_less cd_law_less ct_law_less oc_law_added kV_law_added dc_law_added pm_law_added cd_law_added ct_law_added oc_law_weighted kV_law_weighted dc_law_weighted pm_law_weighted cd_law_weighted ct_law_weighted oc_law_drawn kV_law_drawn dc_law_drawn pm_law_drawn cd_law_drawn ct_law_drawn oc_law_fits kV_law_fits dc_law_fits pm_law_fits cd_law_fits ct_law_fits oc_law_solution kV_law_solution dc_law_solution pm_law_solution cd_law_solution ct_law_solution oc_law_fit kV_law_fit dc_law_fit pm_law_fit cd_law_fit ct_law_fit oc_law_load kV_law_load dc_law_load pm_law_load cd_law_load ct_law_load oc_law_gain kV_law_gain dc_law_gain pm_law_gain cd_law_gain ct_law_gain oc_law_some kV_law_some dc_law_some pm_law_some cd_law_some ct_law_some oc_law_refused kV_law_refused dc_law_refused pm_law_refused cd_law_refused ct_law_refused oc_law_signed kV_law_signed dc_law_signed pm_law_signed cd_law_signed ct_law_signed oc_law kV_law dc_law pm_law cd_law ct_law : Value}
    {nm_WebError qn_WebError nm_OutOfRange qn_OutOfRange nm_TooMany qn_TooMany nm_ZeroDivisor qn_ZeroDivisor nm_BadRelation qn_BadRelation nm_WrongSize qn_WrongSize : Str} {N_WebError N_OutOfRange N_TooMany N_ZeroDivisor N_BadRelation N_WrongSize : Addr} {bs_WebError bm_WebError sub_WebError bs_OutOfRange bm_OutOfRange sub_OutOfRange bs_TooMany bm_TooMany sub_TooMany bs_ZeroDivisor bm_ZeroDivisor sub_ZeroDivisor bs_BadRelation bm_BadRelation sub_BadRelation bs_WrongSize bm_WrongSize sub_WrongSize : List Value} {st_WebError st_OutOfRange st_TooMany st_ZeroDivisor st_BadRelation st_WrongSize : List Str} {ab_WebError ab_OutOfRange ab_TooMany ab_ZeroDivisor ab_BadRelation ab_WrongSize : Bool} {col_WebError col_OutOfRange col_TooMany col_ZeroDivisor col_BadRelation col_WrongSize : Option Bool} {dd_WebError dd_OutOfRange dd_TooMany dd_ZeroDivisor dd_BadRelation dd_WrongSize : Option Addr} {m0_WebError m1_WebError m2_WebError m3_WebError m5_WebError m0_OutOfRange m1_OutOfRange m2_OutOfRange m3_OutOfRange m5_OutOfRange m0_TooMany m1_TooMany m2_TooMany m3_TooMany m5_TooMany m0_ZeroDivisor m1_ZeroDivisor m2_ZeroDivisor m3_ZeroDivisor m5_ZeroDivisor m0_BadRelation m1_BadRelation m2_BadRelation m3_BadRelation m5_BadRelation m0_WrongSize m1_WrongSize m2_WrongSize m3_WrongSize m5_WrongSize : Option Value}
    {t_MOST_VARIABLES t_MOST_ROWS : Tok} {c_RELATIONS : Addr} {oc_RELATIONS : Value} {od_RELATIONS : Option Addr} {it_RELATIONS : Array Value} {sn_RELATIONS : Nat} {sl_RELATIONS : Array (Option Value)} 
    (aC_Program : PySem.W.nsIn K mainGlobals "Program" = some (some (.ref c_Program)))
    (aC_WebError : PySem.W.nsIn K mainGlobals "WebError" = some (some (.ref c_WebError)))
    (aC_OutOfRange : PySem.W.nsIn K mainGlobals "OutOfRange" = some (some (.ref c_OutOfRange)))
    (aC_TooMany : PySem.W.nsIn K mainGlobals "TooMany" = some (some (.ref c_TooMany)))
    (aC_ZeroDivisor : PySem.W.nsIn K mainGlobals "ZeroDivisor" = some (some (.ref c_ZeroDivisor)))
    (aC_BadRelation : PySem.W.nsIn K mainGlobals "BadRelation" = some (some (.ref c_BadRelation)))
    (aC_WrongSize : PySem.W.nsIn K mainGlobals "WrongSize" = some (some (.ref c_WrongSize)))
    (a_WebError___init__ : PySem.W.findIn K (.ref c_WebError) "__init__" = some (some (.ref f_WebError___init__)))
    (ty_WebError___init__ : PySem.W.typeIn K (.ref f_WebError___init__) = some (.type "function"))
    (l_WebError___init__ : K.lookup f_WebError___init__ = some ⟨oc_WebError___init__, od_WebError___init__, .func (PySem.W.fnOf "__init__" "WebError.__init__" (defArgs s_WebError___init__) (defBody s_WebError___init__) (defScope s_WebError___init__) .none kV_WebError___init__ dc_WebError___init__ pm_WebError___init__ an_WebError___init__ cd_WebError___init__ ct_WebError___init__), sl_WebError___init__⟩)
    (cdw_WebError___init__ : PySem.W.codeIn K cd_WebError___init__ "WebError.__init__" = true)
    (kp_WebError___init__ : PySem.W.keepIn K (.ref f_WebError___init__) = true)
    (a_fraction : PySem.W.nsIn K mainGlobals "fraction" = some (some (.ref f_fraction)))
    (l_fraction : K.lookup f_fraction = some ⟨oc_fraction, od_fraction, .func (PySem.W.fnOf "fraction" "fraction" (defArgs s_fraction) (defBody s_fraction) (defScope s_fraction) .none kV_fraction dc_fraction pm_fraction an_fraction cd_fraction ct_fraction), sl_fraction⟩)
    (cdw_fraction : PySem.W.codeIn K cd_fraction "fraction" = true)
    (kp_fraction : PySem.W.keepIn K (.ref f_fraction) = true)
    (a_scaled : PySem.W.nsIn K mainGlobals "scaled" = some (some (.ref f_scaled)))
    (l_scaled : K.lookup f_scaled = some ⟨oc_scaled, od_scaled, .func (PySem.W.fnOf "scaled" "scaled" (defArgs s_scaled) (defBody s_scaled) (defScope s_scaled) .none kV_scaled dc_scaled pm_scaled an_scaled cd_scaled ct_scaled), sl_scaled⟩)
    (cdw_scaled : PySem.W.codeIn K cd_scaled "scaled" = true)
    (kp_scaled : PySem.W.keepIn K (.ref f_scaled) = true)
    (a_Program___init__ : PySem.W.findIn K (.ref c_Program) "__init__" = some (some (.ref f_Program___init__)))
    (i_Program___init__ : PySem.W.isFn K (.ref f_Program___init__) = true)
    (l_Program___init__ : K.lookup f_Program___init__ = some ⟨oc_Program___init__, od_Program___init__, .func (PySem.W.fnOf "__init__" "Program.__init__" (defArgs s_Program___init__) (defBody s_Program___init__) (defScope s_Program___init__) .none kV_Program___init__ dc_Program___init__ pm_Program___init__ an_Program___init__ cd_Program___init__ ct_Program___init__), sl_Program___init__⟩)
    (cdw_Program___init__ : PySem.W.codeIn K cd_Program___init__ "Program.__init__" = true)
    (kp_Program___init__ : PySem.W.keepIn K (.ref f_Program___init__) = true)
    (a_Program_count : PySem.W.findIn K (.ref c_Program) "count" = some (some (.ref f_Program_count)))
    (i_Program_count : PySem.W.isFn K (.ref f_Program_count) = true)
    (l_Program_count : K.lookup f_Program_count = some ⟨oc_Program_count, od_Program_count, .func (PySem.W.fnOf "count" "Program.count" (defArgs s_Program_count) (defBody s_Program_count) (defScope s_Program_count) .none kV_Program_count dc_Program_count pm_Program_count an_Program_count cd_Program_count ct_Program_count), sl_Program_count⟩)
    (cdw_Program_count : PySem.W.codeIn K cd_Program_count "Program.count" = true)
    (kp_Program_count : PySem.W.keepIn K (.ref f_Program_count) = true)
    (a_Program_rows : PySem.W.findIn K (.ref c_Program) "rows" = some (some (.ref f_Program_rows)))
    (i_Program_rows : PySem.W.isFn K (.ref f_Program_rows) = true)
    (l_Program_rows : K.lookup f_Program_rows = some ⟨oc_Program_rows, od_Program_rows, .func (PySem.W.fnOf "rows" "Program.rows" (defArgs s_Program_rows) (defBody s_Program_rows) (defScope s_Program_rows) .none kV_Program_rows dc_Program_rows pm_Program_rows an_Program_rows cd_Program_rows ct_Program_rows), sl_Program_rows⟩)
    (cdw_Program_rows : PySem.W.codeIn K cd_Program_rows "Program.rows" = true)
    (kp_Program_rows : PySem.W.keepIn K (.ref f_Program_rows) = true)
    (a_dot : PySem.W.nsIn K mainGlobals "dot" = some (some (.ref f_dot)))
    (l_dot : K.lookup f_dot = some ⟨oc_dot, od_dot, .func (PySem.W.fnOf "dot" "dot" (defArgs s_dot) (defBody s_dot) (defScope s_dot) .none kV_dot dc_dot pm_dot an_dot cd_dot ct_dot), sl_dot⟩)
    (cdw_dot : PySem.W.codeIn K cd_dot "dot" = true)
    (kp_dot : PySem.W.keepIn K (.ref f_dot) = true)
    (a_is_fit : PySem.W.nsIn K mainGlobals "is_fit" = some (some (.ref f_is_fit)))
    (l_is_fit : K.lookup f_is_fit = some ⟨oc_is_fit, od_is_fit, .func (PySem.W.fnOf "is_fit" "is_fit" (defArgs s_is_fit) (defBody s_is_fit) (defScope s_is_fit) .none kV_is_fit dc_is_fit pm_is_fit an_is_fit cd_is_fit ct_is_fit), sl_is_fit⟩)
    (cdw_is_fit : PySem.W.codeIn K cd_is_fit "is_fit" = true)
    (kp_is_fit : PySem.W.keepIn K (.ref f_is_fit) = true)
    (a_are_fit : PySem.W.nsIn K mainGlobals "are_fit" = some (some (.ref f_are_fit)))
    (l_are_fit : K.lookup f_are_fit = some ⟨oc_are_fit, od_are_fit, .func (PySem.W.fnOf "are_fit" "are_fit" (defArgs s_are_fit) (defBody s_are_fit) (defScope s_are_fit) .none kV_are_fit dc_are_fit pm_are_fit an_are_fit cd_are_fit ct_are_fit), sl_are_fit⟩)
    (cdw_are_fit : PySem.W.codeIn K cd_are_fit "are_fit" = true)
    (kp_are_fit : PySem.W.keepIn K (.ref f_are_fit) = true)
    (a_scaled_for : PySem.W.nsIn K mainGlobals "scaled_for" = some (some (.ref f_scaled_for)))
    (l_scaled_for : K.lookup f_scaled_for = some ⟨oc_scaled_for, od_scaled_for, .func (PySem.W.fnOf "scaled_for" "scaled_for" (defArgs s_scaled_for) (defBody s_scaled_for) (defScope s_scaled_for) .none kV_scaled_for dc_scaled_for pm_scaled_for an_scaled_for cd_scaled_for ct_scaled_for), sl_scaled_for⟩)
    (cdw_scaled_for : PySem.W.codeIn K cd_scaled_for "scaled_for" = true)
    (kp_scaled_for : PySem.W.keepIn K (.ref f_scaled_for) = true)
    (a_loads : PySem.W.nsIn K mainGlobals "loads" = some (some (.ref f_loads)))
    (l_loads : K.lookup f_loads = some ⟨oc_loads, od_loads, .func (PySem.W.fnOf "loads" "loads" (defArgs s_loads) (defBody s_loads) (defScope s_loads) .none kV_loads dc_loads pm_loads an_loads cd_loads ct_loads), sl_loads⟩)
    (cdw_loads : PySem.W.codeIn K cd_loads "loads" = true)
    (kp_loads : PySem.W.keepIn K (.ref f_loads) = true)
    (a_gain : PySem.W.nsIn K mainGlobals "gain" = some (some (.ref f_gain)))
    (l_gain : K.lookup f_gain = some ⟨oc_gain, od_gain, .func (PySem.W.fnOf "gain" "gain" (defArgs s_gain) (defBody s_gain) (defScope s_gain) .none kV_gain dc_gain pm_gain an_gain cd_gain ct_gain), sl_gain⟩)
    (cdw_gain : PySem.W.codeIn K cd_gain "gain" = true)
    (kp_gain : PySem.W.keepIn K (.ref f_gain) = true)
    (a_law_numbers : PySem.W.nsIn K mainGlobals "_law_numbers" = some (some (.ref f_law_numbers)))
    (l_law_numbers : K.lookup f_law_numbers = some ⟨oc_law_numbers, od_law_numbers, .func (PySem.W.fnOf "_law_numbers" "_law_numbers" (defArgs s_law_numbers) (defBody s_law_numbers) (defScope s_law_numbers) .none kV_law_numbers dc_law_numbers pm_law_numbers an_law_numbers cd_law_numbers ct_law_numbers), sl_law_numbers⟩)
    (cdw_law_numbers : PySem.W.codeIn K cd_law_numbers "_law_numbers" = true)
    (kp_law_numbers : PySem.W.keepIn K (.ref f_law_numbers) = true)
    (a_law_lowest : PySem.W.nsIn K mainGlobals "_law_lowest" = some (some (.ref f_law_lowest)))
    (l_law_lowest : K.lookup f_law_lowest = some ⟨oc_law_lowest, od_law_lowest, .func (PySem.W.fnOf "_law_lowest" "_law_lowest" (defArgs s_law_lowest) (defBody s_law_lowest) (defScope s_law_lowest) .none kV_law_lowest dc_law_lowest pm_law_lowest an_law_lowest cd_law_lowest ct_law_lowest), sl_law_lowest⟩)
    (cdw_law_lowest : PySem.W.codeIn K cd_law_lowest "_law_lowest" = true)
    (kp_law_lowest : PySem.W.keepIn K (.ref f_law_lowest) = true)
    (a_law_plus : PySem.W.nsIn K mainGlobals "_law_plus" = some (some (.ref f_law_plus)))
    (l_law_plus : K.lookup f_law_plus = some ⟨oc_law_plus, od_law_plus, .func (PySem.W.fnOf "_law_plus" "_law_plus" (defArgs s_law_plus) (defBody s_law_plus) (defScope s_law_plus) .none kV_law_plus dc_law_plus pm_law_plus an_law_plus cd_law_plus ct_law_plus), sl_law_plus⟩)
    (cdw_law_plus : PySem.W.codeIn K cd_law_plus "_law_plus" = true)
    (kp_law_plus : PySem.W.keepIn K (.ref f_law_plus) = true)
    (a_law_times : PySem.W.nsIn K mainGlobals "_law_times" = some (some (.ref f_law_times)))
    (l_law_times : K.lookup f_law_times = some ⟨oc_law_times, od_law_times, .func (PySem.W.fnOf "_law_times" "_law_times" (defArgs s_law_times) (defBody s_law_times) (defScope s_law_times) .none kV_law_times dc_law_times pm_law_times an_law_times cd_law_times ct_law_times), sl_law_times⟩)
    (cdw_law_times : PySem.W.codeIn K cd_law_times "_law_times" = true)
    (kp_law_times : PySem.W.keepIn K (.ref f_law_times) = true)
    (a_law_less : PySem.W.nsIn K mainGlobals "_law_less" = some (some (.ref f_law_less)))
    (l_law_less : K.lookup f_law_less = some ⟨oc_law_less, od_law_less, .func (PySem.W.fnOf "_law_less" "_law_less" (defArgs s_law_less) (defBody s_law_less) (defScope s_law_less) .none kV_law_less dc_law_less pm_law_less an_law_less cd_law_less ct_law_less), sl_law_less⟩)
    (cdw_law_less : PySem.W.codeIn K cd_law_less "_law_less" = true)
    (kp_law_less : PySem.W.keepIn K (.ref f_law_less) = true)
    (a_law_added : PySem.W.nsIn K mainGlobals "_law_added" = some (some (.ref f_law_added)))
    (l_law_added : K.lookup f_law_added = some ⟨oc_law_added, od_law_added, .func (PySem.W.fnOf "_law_added" "_law_added" (defArgs s_law_added) (defBody s_law_added) (defScope s_law_added) .none kV_law_added dc_law_added pm_law_added an_law_added cd_law_added ct_law_added), sl_law_added⟩)
    (cdw_law_added : PySem.W.codeIn K cd_law_added "_law_added" = true)
    (kp_law_added : PySem.W.keepIn K (.ref f_law_added) = true)
    (a_law_weighted : PySem.W.nsIn K mainGlobals "_law_weighted" = some (some (.ref f_law_weighted)))
    (l_law_weighted : K.lookup f_law_weighted = some ⟨oc_law_weighted, od_law_weighted, .func (PySem.W.fnOf "_law_weighted" "_law_weighted" (defArgs s_law_weighted) (defBody s_law_weighted) (defScope s_law_weighted) .none kV_law_weighted dc_law_weighted pm_law_weighted an_law_weighted cd_law_weighted ct_law_weighted), sl_law_weighted⟩)
    (cdw_law_weighted : PySem.W.codeIn K cd_law_weighted "_law_weighted" = true)
    (kp_law_weighted : PySem.W.keepIn K (.ref f_law_weighted) = true)
    (a_law_drawn : PySem.W.nsIn K mainGlobals "_law_drawn" = some (some (.ref f_law_drawn)))
    (l_law_drawn : K.lookup f_law_drawn = some ⟨oc_law_drawn, od_law_drawn, .func (PySem.W.fnOf "_law_drawn" "_law_drawn" (defArgs s_law_drawn) (defBody s_law_drawn) (defScope s_law_drawn) .none kV_law_drawn dc_law_drawn pm_law_drawn an_law_drawn cd_law_drawn ct_law_drawn), sl_law_drawn⟩)
    (cdw_law_drawn : PySem.W.codeIn K cd_law_drawn "_law_drawn" = true)
    (kp_law_drawn : PySem.W.keepIn K (.ref f_law_drawn) = true)
    (a_law_fits : PySem.W.nsIn K mainGlobals "_law_fits" = some (some (.ref f_law_fits)))
    (l_law_fits : K.lookup f_law_fits = some ⟨oc_law_fits, od_law_fits, .func (PySem.W.fnOf "_law_fits" "_law_fits" (defArgs s_law_fits) (defBody s_law_fits) (defScope s_law_fits) .none kV_law_fits dc_law_fits pm_law_fits an_law_fits cd_law_fits ct_law_fits), sl_law_fits⟩)
    (cdw_law_fits : PySem.W.codeIn K cd_law_fits "_law_fits" = true)
    (kp_law_fits : PySem.W.keepIn K (.ref f_law_fits) = true)
    (a_law_solution : PySem.W.nsIn K mainGlobals "_law_solution" = some (some (.ref f_law_solution)))
    (l_law_solution : K.lookup f_law_solution = some ⟨oc_law_solution, od_law_solution, .func (PySem.W.fnOf "_law_solution" "_law_solution" (defArgs s_law_solution) (defBody s_law_solution) (defScope s_law_solution) .none kV_law_solution dc_law_solution pm_law_solution an_law_solution cd_law_solution ct_law_solution), sl_law_solution⟩)
    (cdw_law_solution : PySem.W.codeIn K cd_law_solution "_law_solution" = true)
    (kp_law_solution : PySem.W.keepIn K (.ref f_law_solution) = true)
    (a_law_fit : PySem.W.nsIn K mainGlobals "_law_fit" = some (some (.ref f_law_fit)))
    (l_law_fit : K.lookup f_law_fit = some ⟨oc_law_fit, od_law_fit, .func (PySem.W.fnOf "_law_fit" "_law_fit" (defArgs s_law_fit) (defBody s_law_fit) (defScope s_law_fit) .none kV_law_fit dc_law_fit pm_law_fit an_law_fit cd_law_fit ct_law_fit), sl_law_fit⟩)
    (cdw_law_fit : PySem.W.codeIn K cd_law_fit "_law_fit" = true)
    (kp_law_fit : PySem.W.keepIn K (.ref f_law_fit) = true)
    (a_law_load : PySem.W.nsIn K mainGlobals "_law_load" = some (some (.ref f_law_load)))
    (l_law_load : K.lookup f_law_load = some ⟨oc_law_load, od_law_load, .func (PySem.W.fnOf "_law_load" "_law_load" (defArgs s_law_load) (defBody s_law_load) (defScope s_law_load) .none kV_law_load dc_law_load pm_law_load an_law_load cd_law_load ct_law_load), sl_law_load⟩)
    (cdw_law_load : PySem.W.codeIn K cd_law_load "_law_load" = true)
    (kp_law_load : PySem.W.keepIn K (.ref f_law_load) = true)
    (a_law_gain : PySem.W.nsIn K mainGlobals "_law_gain" = some (some (.ref f_law_gain)))
    (l_law_gain : K.lookup f_law_gain = some ⟨oc_law_gain, od_law_gain, .func (PySem.W.fnOf "_law_gain" "_law_gain" (defArgs s_law_gain) (defBody s_law_gain) (defScope s_law_gain) .none kV_law_gain dc_law_gain pm_law_gain an_law_gain cd_law_gain ct_law_gain), sl_law_gain⟩)
    (cdw_law_gain : PySem.W.codeIn K cd_law_gain "_law_gain" = true)
    (kp_law_gain : PySem.W.keepIn K (.ref f_law_gain) = true)
    (a_law_some : PySem.W.nsIn K mainGlobals "_law_some" = some (some (.ref f_law_some)))
    (l_law_some : K.lookup f_law_some = some ⟨oc_law_some, od_law_some, .func (PySem.W.fnOf "_law_some" "_law_some" (defArgs s_law_some) (defBody s_law_some) (defScope s_law_some) .none kV_law_some dc_law_some pm_law_some an_law_some cd_law_some ct_law_some), sl_law_some⟩)
    (cdw_law_some : PySem.W.codeIn K cd_law_some "_law_some" = true)
    (kp_law_some : PySem.W.keepIn K (.ref f_law_some) = true)
    (a_law_refused : PySem.W.nsIn K mainGlobals "_law_refused" = some (some (.ref f_law_refused)))
    (l_law_refused : K.lookup f_law_refused = some ⟨oc_law_refused, od_law_refused, .func (PySem.W.fnOf "_law_refused" "_law_refused" (defArgs s_law_refused) (defBody s_law_refused) (defScope s_law_refused) .none kV_law_refused dc_law_refused pm_law_refused an_law_refused cd_law_refused ct_law_refused), sl_law_refused⟩)
    (cdw_law_refused : PySem.W.codeIn K cd_law_refused "_law_refused" = true)
    (kp_law_refused : PySem.W.keepIn K (.ref f_law_refused) = true)
    (a_law_signed : PySem.W.nsIn K mainGlobals "_law_signed" = some (some (.ref f_law_signed)))
    (l_law_signed : K.lookup f_law_signed = some ⟨oc_law_signed, od_law_signed, .func (PySem.W.fnOf "_law_signed" "_law_signed" (defArgs s_law_signed) (defBody s_law_signed) (defScope s_law_signed) .none kV_law_signed dc_law_signed pm_law_signed an_law_signed cd_law_signed ct_law_signed), sl_law_signed⟩)
    (cdw_law_signed : PySem.W.codeIn K cd_law_signed "_law_signed" = true)
    (kp_law_signed : PySem.W.keepIn K (.ref f_law_signed) = true)
    (a_law : PySem.W.nsIn K mainGlobals "law" = some (some (.ref f_law)))
    (l_law : K.lookup f_law = some ⟨oc_law, od_law, .func (PySem.W.fnOf "law" "law" (defArgs s_law) (defBody s_law) (defScope s_law) .none kV_law dc_law pm_law an_law cd_law ct_law), sl_law⟩)
    (cdw_law : PySem.W.codeIn K cd_law "law" = true)
    (kp_law : PySem.W.keepIn K (.ref f_law) = true)
    (pg_Program : PySem.W.plainGet K c_Program Str.empty = true)
    (hd_Program : PySem.W.hasDictIn K c_Program = true)
    (po_Program : PySem.W.plainOver K c_Program = true)
    (sa_Program : PySem.W.findIn K (.ref c_Program) "__setattr__" = some (some (.builtin "object.__setattr__")))
    (mk_Program : PySem.W.makesIn K c_Program = true)
    (kc_Program : PySem.W.keepIn K (.ref c_Program) = true)
    (na_Program__prices : PySem.W.findIn K (.ref c_Program) "_prices" = some none)
    (na_Program__rows : PySem.W.findIn K (.ref c_Program) "_rows" = some none)
    (gt : PySem.W.specialIn K (.builtin "object.__class__") "__get__" = some (some (.builtin "getset_descriptor.__get__")))
    (tk : PySem.W.takesIn K (.builtin "object.__class__") = some true)
    (ib : PySem.W.isClsIn K c_WebError = true)
    (xL_WebError : K.lookup c_WebError = some (excClassObj nm_WebError qn_WebError c_WebError N_WebError bs_WebError bm_WebError true st_WebError sub_WebError ab_WebError col_WebError dd_WebError m0_WebError m1_WebError m2_WebError m3_WebError m5_WebError "ValueError.__new__"))
    (rv_WebError : PySem.HandSPX.refsVE bm_WebError = true)
    (sa_WebError : PySem.W.findIn K (.ref c_WebError) "__setattr__" = some (some (.builtin "object.__setattr__")))
    (ga_WebError : PySem.W.findIn K (.ref c_WebError) "__getattribute__" = some (some (.builtin "BaseException.__getattribute__")))
    (gg_WebError : PySem.W.findIn K (.ref c_WebError) "__getattr__" = some none)
    (nb_WebError : PySem.W.findIn K (.ref c_WebError) "at" = some none)
    (in_WebError : PySem.W.findIn K (.ref c_WebError) "__init__" = some (some (.ref f_WebError___init__)))
    (eC_WebError : PySem.W.subIn K (.ref c_WebError) (.type "BaseException") = some true)
    (tC_WebError : PySem.W.typeIn K (.ref c_WebError) = some (.type "type"))
    (hC_WebError : PySem.W.hasDictIn K c_WebError = true)
    (kC_WebError : PySem.W.keepIn K (.ref c_WebError) = true)
    (cl_WebError : PySem.W.findIn K (.ref c_WebError) "__class__" = some (some (.builtin "object.__class__")))
    (mr_WebError : PySem.W.mroIn K c_WebError (.type "object") = some true)
    (xL_OutOfRange : K.lookup c_OutOfRange = some (excClassObj nm_OutOfRange qn_OutOfRange c_OutOfRange N_OutOfRange bs_OutOfRange bm_OutOfRange true st_OutOfRange sub_OutOfRange ab_OutOfRange col_OutOfRange dd_OutOfRange m0_OutOfRange m1_OutOfRange m2_OutOfRange m3_OutOfRange m5_OutOfRange "ValueError.__new__"))
    (rv_OutOfRange : PySem.HandSPX.refsVE bm_OutOfRange = true)
    (sa_OutOfRange : PySem.W.findIn K (.ref c_OutOfRange) "__setattr__" = some (some (.builtin "object.__setattr__")))
    (ga_OutOfRange : PySem.W.findIn K (.ref c_OutOfRange) "__getattribute__" = some (some (.builtin "BaseException.__getattribute__")))
    (gg_OutOfRange : PySem.W.findIn K (.ref c_OutOfRange) "__getattr__" = some none)
    (nb_OutOfRange : PySem.W.findIn K (.ref c_OutOfRange) "at" = some none)
    (in_OutOfRange : PySem.W.findIn K (.ref c_OutOfRange) "__init__" = some (some (.ref f_WebError___init__)))
    (eC_OutOfRange : PySem.W.subIn K (.ref c_OutOfRange) (.type "BaseException") = some true)
    (tC_OutOfRange : PySem.W.typeIn K (.ref c_OutOfRange) = some (.type "type"))
    (hC_OutOfRange : PySem.W.hasDictIn K c_OutOfRange = true)
    (kC_OutOfRange : PySem.W.keepIn K (.ref c_OutOfRange) = true)
    (cl_OutOfRange : PySem.W.findIn K (.ref c_OutOfRange) "__class__" = some (some (.builtin "object.__class__")))
    (mr_OutOfRange : PySem.W.mroIn K c_OutOfRange (.type "object") = some true)
    (sb_OutOfRange : PySem.W.subIn K (.ref c_OutOfRange) (.ref c_WebError) = some true)
    (is_OutOfRange_OutOfRange : PySem.W.kitOne K (.ref c_OutOfRange) (.ref c_OutOfRange) = some true)
    (is_OutOfRange_TooMany : PySem.W.kitOne K (.ref c_OutOfRange) (.ref c_TooMany) = some false)
    (is_OutOfRange_ZeroDivisor : PySem.W.kitOne K (.ref c_OutOfRange) (.ref c_ZeroDivisor) = some false)
    (is_OutOfRange_BadRelation : PySem.W.kitOne K (.ref c_OutOfRange) (.ref c_BadRelation) = some false)
    (is_OutOfRange_WrongSize : PySem.W.kitOne K (.ref c_OutOfRange) (.ref c_WrongSize) = some false)
    (xL_TooMany : K.lookup c_TooMany = some (excClassObj nm_TooMany qn_TooMany c_TooMany N_TooMany bs_TooMany bm_TooMany true st_TooMany sub_TooMany ab_TooMany col_TooMany dd_TooMany m0_TooMany m1_TooMany m2_TooMany m3_TooMany m5_TooMany "ValueError.__new__"))
    (rv_TooMany : PySem.HandSPX.refsVE bm_TooMany = true)
    (sa_TooMany : PySem.W.findIn K (.ref c_TooMany) "__setattr__" = some (some (.builtin "object.__setattr__")))
    (ga_TooMany : PySem.W.findIn K (.ref c_TooMany) "__getattribute__" = some (some (.builtin "BaseException.__getattribute__")))
    (gg_TooMany : PySem.W.findIn K (.ref c_TooMany) "__getattr__" = some none)
    (nb_TooMany : PySem.W.findIn K (.ref c_TooMany) "at" = some none)
    (in_TooMany : PySem.W.findIn K (.ref c_TooMany) "__init__" = some (some (.ref f_WebError___init__)))
    (eC_TooMany : PySem.W.subIn K (.ref c_TooMany) (.type "BaseException") = some true)
    (tC_TooMany : PySem.W.typeIn K (.ref c_TooMany) = some (.type "type"))
    (hC_TooMany : PySem.W.hasDictIn K c_TooMany = true)
    (kC_TooMany : PySem.W.keepIn K (.ref c_TooMany) = true)
    (cl_TooMany : PySem.W.findIn K (.ref c_TooMany) "__class__" = some (some (.builtin "object.__class__")))
    (mr_TooMany : PySem.W.mroIn K c_TooMany (.type "object") = some true)
    (sb_TooMany : PySem.W.subIn K (.ref c_TooMany) (.ref c_WebError) = some true)
    (is_TooMany_OutOfRange : PySem.W.kitOne K (.ref c_TooMany) (.ref c_OutOfRange) = some false)
    (is_TooMany_TooMany : PySem.W.kitOne K (.ref c_TooMany) (.ref c_TooMany) = some true)
    (is_TooMany_ZeroDivisor : PySem.W.kitOne K (.ref c_TooMany) (.ref c_ZeroDivisor) = some false)
    (is_TooMany_BadRelation : PySem.W.kitOne K (.ref c_TooMany) (.ref c_BadRelation) = some false)
    (is_TooMany_WrongSize : PySem.W.kitOne K (.ref c_TooMany) (.ref c_WrongSize) = some false)
    (xL_ZeroDivisor : K.lookup c_ZeroDivisor = some (excClassObj nm_ZeroDivisor qn_ZeroDivisor c_ZeroDivisor N_ZeroDivisor bs_ZeroDivisor bm_ZeroDivisor true st_ZeroDivisor sub_ZeroDivisor ab_ZeroDivisor col_ZeroDivisor dd_ZeroDivisor m0_ZeroDivisor m1_ZeroDivisor m2_ZeroDivisor m3_ZeroDivisor m5_ZeroDivisor "ValueError.__new__"))
    (rv_ZeroDivisor : PySem.HandSPX.refsVE bm_ZeroDivisor = true)
    (sa_ZeroDivisor : PySem.W.findIn K (.ref c_ZeroDivisor) "__setattr__" = some (some (.builtin "object.__setattr__")))
    (ga_ZeroDivisor : PySem.W.findIn K (.ref c_ZeroDivisor) "__getattribute__" = some (some (.builtin "BaseException.__getattribute__")))
    (gg_ZeroDivisor : PySem.W.findIn K (.ref c_ZeroDivisor) "__getattr__" = some none)
    (nb_ZeroDivisor : PySem.W.findIn K (.ref c_ZeroDivisor) "at" = some none)
    (in_ZeroDivisor : PySem.W.findIn K (.ref c_ZeroDivisor) "__init__" = some (some (.ref f_WebError___init__)))
    (eC_ZeroDivisor : PySem.W.subIn K (.ref c_ZeroDivisor) (.type "BaseException") = some true)
    (tC_ZeroDivisor : PySem.W.typeIn K (.ref c_ZeroDivisor) = some (.type "type"))
    (hC_ZeroDivisor : PySem.W.hasDictIn K c_ZeroDivisor = true)
    (kC_ZeroDivisor : PySem.W.keepIn K (.ref c_ZeroDivisor) = true)
    (cl_ZeroDivisor : PySem.W.findIn K (.ref c_ZeroDivisor) "__class__" = some (some (.builtin "object.__class__")))
    (mr_ZeroDivisor : PySem.W.mroIn K c_ZeroDivisor (.type "object") = some true)
    (sb_ZeroDivisor : PySem.W.subIn K (.ref c_ZeroDivisor) (.ref c_WebError) = some true)
    (is_ZeroDivisor_OutOfRange : PySem.W.kitOne K (.ref c_ZeroDivisor) (.ref c_OutOfRange) = some false)
    (is_ZeroDivisor_TooMany : PySem.W.kitOne K (.ref c_ZeroDivisor) (.ref c_TooMany) = some false)
    (is_ZeroDivisor_ZeroDivisor : PySem.W.kitOne K (.ref c_ZeroDivisor) (.ref c_ZeroDivisor) = some true)
    (is_ZeroDivisor_BadRelation : PySem.W.kitOne K (.ref c_ZeroDivisor) (.ref c_BadRelation) = some false)
    (is_ZeroDivisor_WrongSize : PySem.W.kitOne K (.ref c_ZeroDivisor) (.ref c_WrongSize) = some false)
    (xL_BadRelation : K.lookup c_BadRelation = some (excClassObj nm_BadRelation qn_BadRelation c_BadRelation N_BadRelation bs_BadRelation bm_BadRelation true st_BadRelation sub_BadRelation ab_BadRelation col_BadRelation dd_BadRelation m0_BadRelation m1_BadRelation m2_BadRelation m3_BadRelation m5_BadRelation "ValueError.__new__"))
    (rv_BadRelation : PySem.HandSPX.refsVE bm_BadRelation = true)
    (sa_BadRelation : PySem.W.findIn K (.ref c_BadRelation) "__setattr__" = some (some (.builtin "object.__setattr__")))
    (ga_BadRelation : PySem.W.findIn K (.ref c_BadRelation) "__getattribute__" = some (some (.builtin "BaseException.__getattribute__")))
    (gg_BadRelation : PySem.W.findIn K (.ref c_BadRelation) "__getattr__" = some none)
    (nb_BadRelation : PySem.W.findIn K (.ref c_BadRelation) "at" = some none)
    (in_BadRelation : PySem.W.findIn K (.ref c_BadRelation) "__init__" = some (some (.ref f_WebError___init__)))
    (eC_BadRelation : PySem.W.subIn K (.ref c_BadRelation) (.type "BaseException") = some true)
    (tC_BadRelation : PySem.W.typeIn K (.ref c_BadRelation) = some (.type "type"))
    (hC_BadRelation : PySem.W.hasDictIn K c_BadRelation = true)
    (kC_BadRelation : PySem.W.keepIn K (.ref c_BadRelation) = true)
    (cl_BadRelation : PySem.W.findIn K (.ref c_BadRelation) "__class__" = some (some (.builtin "object.__class__")))
    (mr_BadRelation : PySem.W.mroIn K c_BadRelation (.type "object") = some true)
    (sb_BadRelation : PySem.W.subIn K (.ref c_BadRelation) (.ref c_WebError) = some true)
    (is_BadRelation_OutOfRange : PySem.W.kitOne K (.ref c_BadRelation) (.ref c_OutOfRange) = some false)
    (is_BadRelation_TooMany : PySem.W.kitOne K (.ref c_BadRelation) (.ref c_TooMany) = some false)
    (is_BadRelation_ZeroDivisor : PySem.W.kitOne K (.ref c_BadRelation) (.ref c_ZeroDivisor) = some false)
    (is_BadRelation_BadRelation : PySem.W.kitOne K (.ref c_BadRelation) (.ref c_BadRelation) = some true)
    (is_BadRelation_WrongSize : PySem.W.kitOne K (.ref c_BadRelation) (.ref c_WrongSize) = some false)
    (xL_WrongSize : K.lookup c_WrongSize = some (excClassObj nm_WrongSize qn_WrongSize c_WrongSize N_WrongSize bs_WrongSize bm_WrongSize true st_WrongSize sub_WrongSize ab_WrongSize col_WrongSize dd_WrongSize m0_WrongSize m1_WrongSize m2_WrongSize m3_WrongSize m5_WrongSize "ValueError.__new__"))
    (rv_WrongSize : PySem.HandSPX.refsVE bm_WrongSize = true)
    (sa_WrongSize : PySem.W.findIn K (.ref c_WrongSize) "__setattr__" = some (some (.builtin "object.__setattr__")))
    (ga_WrongSize : PySem.W.findIn K (.ref c_WrongSize) "__getattribute__" = some (some (.builtin "BaseException.__getattribute__")))
    (gg_WrongSize : PySem.W.findIn K (.ref c_WrongSize) "__getattr__" = some none)
    (nb_WrongSize : PySem.W.findIn K (.ref c_WrongSize) "at" = some none)
    (in_WrongSize : PySem.W.findIn K (.ref c_WrongSize) "__init__" = some (some (.ref f_WebError___init__)))
    (eC_WrongSize : PySem.W.subIn K (.ref c_WrongSize) (.type "BaseException") = some true)
    (tC_WrongSize : PySem.W.typeIn K (.ref c_WrongSize) = some (.type "type"))
    (hC_WrongSize : PySem.W.hasDictIn K c_WrongSize = true)
    (kC_WrongSize : PySem.W.keepIn K (.ref c_WrongSize) = true)
    (cl_WrongSize : PySem.W.findIn K (.ref c_WrongSize) "__class__" = some (some (.builtin "object.__class__")))
    (mr_WrongSize : PySem.W.mroIn K c_WrongSize (.type "object") = some true)
    (sb_WrongSize : PySem.W.subIn K (.ref c_WrongSize) (.ref c_WebError) = some true)
    (is_WrongSize_OutOfRange : PySem.W.kitOne K (.ref c_WrongSize) (.ref c_OutOfRange) = some false)
    (is_WrongSize_TooMany : PySem.W.kitOne K (.ref c_WrongSize) (.ref c_TooMany) = some false)
    (is_WrongSize_ZeroDivisor : PySem.W.kitOne K (.ref c_WrongSize) (.ref c_ZeroDivisor) = some false)
    (is_WrongSize_BadRelation : PySem.W.kitOne K (.ref c_WrongSize) (.ref c_BadRelation) = some false)
    (is_WrongSize_WrongSize : PySem.W.kitOne K (.ref c_WrongSize) (.ref c_WrongSize) = some true)
    (z_len : PySem.W.nsIn K mainGlobals "len" = some none)
    (z_range : PySem.W.nsIn K mainGlobals "range" = some none)
    (z_abs : PySem.W.nsIn K mainGlobals "abs" = some none)
    (z_int : PySem.W.nsIn K mainGlobals "int" = some none)
    (z_sum : PySem.W.nsIn K mainGlobals "sum" = some none)
    (z_isinstance : PySem.W.nsIn K mainGlobals "isinstance" = some none)
    (z_list : PySem.W.nsIn K mainGlobals "list" = some none)
    (z_enumerate : PySem.W.nsIn K mainGlobals "enumerate" = some none)
    (z_zip : PySem.W.nsIn K mainGlobals "zip" = some none)
    (z_all : PySem.W.nsIn K mainGlobals "all" = some none)
    (z_repr : PySem.W.nsIn K mainGlobals "repr" = some none)
    (z_gcd : PySem.W.nsIn K mainGlobals "gcd" = some (some (.builtin "math.gcd")))
    (z_lcm : PySem.W.nsIn K mainGlobals "lcm" = some (some (.builtin "math.lcm")))
    (k_MOST_VARIABLES : PySem.W.nsIn K mainGlobals "MOST_VARIABLES" = some (some (.int 40 t_MOST_VARIABLES)))
    (k_MOST_ROWS : PySem.W.nsIn K mainGlobals "MOST_ROWS" = some (some (.int 80 t_MOST_ROWS)))
    (aC_RELATIONS : PySem.W.nsIn K mainGlobals "RELATIONS" = some (some (.ref c_RELATIONS)))
    (l_RELATIONS : K.lookup c_RELATIONS = some ⟨oc_RELATIONS, od_RELATIONS, .seq it_RELATIONS sn_RELATIONS, sl_RELATIONS⟩)
    (v_RELATIONS : oc_RELATIONS = .type "tuple" ∧ it_RELATIONS.size ≤ sizeLine ∧ Vals ([PySem.Str.ofString "least", PySem.Str.ofString "most", PySem.Str.ofString "equal"].map V.str) it_RELATIONS.toList)
    : ∃ fd : FuncData, (∀ (s : Shared) (u : Value), BindsTo s fd ⟨[u], []⟩ [("script", u)]) ∧ ∀ base : Heap, K.In base → base.Ns mainGlobals mg → Z.RunAt P w K mg base (L2.CX P w) 7 fa fd ["script"] (spLaw K) := by
  have e := hfa.symm.trans (PySem.W.mg_of X G a_law)
  have e2 : f_law = fa := by cases e; rfl
  subst e2
  have F_WebError___init__ := fun_mk (st := s_WebError___init__) l_WebError___init__ cdw_WebError___init__ kp_WebError___init__
  have b_WebError___init__ := F_WebError___init__.binds (ps := ["self", "at"]) fun _ _ _ _ _ _ us hl => match us, hl with | [_, _], _ => rfl
  have F_fraction := fun_mk (st := s_fraction) l_fraction cdw_fraction kp_fraction
  have b_fraction := F_fraction.binds (ps := ["numerator", "denominator"]) fun _ _ _ _ _ _ us hl => match us, hl with | [_, _], _ => rfl
  have F_scaled := fun_mk (st := s_scaled) l_scaled cdw_scaled kp_scaled
  have b_scaled := F_scaled.binds (ps := ["fractions"]) fun _ _ _ _ _ _ us hl => match us, hl with | [_], _ => rfl
  have F_Program___init__ := fun_mk (st := s_Program___init__) l_Program___init__ cdw_Program___init__ kp_Program___init__
  have b_Program___init__ := F_Program___init__.binds (ps := ["self", "prices", "rows"]) fun _ _ _ _ _ _ us hl => match us, hl with | [_, _, _], _ => rfl
  have F_Program_count := fun_mk (st := s_Program_count) l_Program_count cdw_Program_count kp_Program_count
  have b_Program_count := F_Program_count.binds (ps := ["self"]) fun _ _ _ _ _ _ us hl => match us, hl with | [_], _ => rfl
  have F_Program_rows := fun_mk (st := s_Program_rows) l_Program_rows cdw_Program_rows kp_Program_rows
  have b_Program_rows := F_Program_rows.binds (ps := ["self"]) fun _ _ _ _ _ _ us hl => match us, hl with | [_], _ => rfl
  have F_dot := fun_mk (st := s_dot) l_dot cdw_dot kp_dot
  have b_dot := F_dot.binds (ps := ["numbers", "others"]) fun _ _ _ _ _ _ us hl => match us, hl with | [_, _], _ => rfl
  have F_is_fit := fun_mk (st := s_is_fit) l_is_fit cdw_is_fit kp_is_fit
  have b_is_fit := F_is_fit.binds (ps := ["relation", "multiplier"]) fun _ _ _ _ _ _ us hl => match us, hl with | [_, _], _ => rfl
  have F_are_fit := fun_mk (st := s_are_fit) l_are_fit cdw_are_fit kp_are_fit
  have b_are_fit := F_are_fit.binds (ps := ["program", "multipliers"]) fun _ _ _ _ _ _ us hl => match us, hl with | [_, _], _ => rfl
  have F_scaled_for := fun_mk (st := s_scaled_for) l_scaled_for cdw_scaled_for kp_scaled_for
  have b_scaled_for := F_scaled_for.binds (ps := ["rows", "multipliers"]) fun _ _ _ _ _ _ us hl => match us, hl with | [_, _], _ => rfl
  have F_loads := fun_mk (st := s_loads) l_loads cdw_loads kp_loads
  have b_loads := F_loads.binds (ps := ["program", "multipliers"]) fun _ _ _ _ _ _ us hl => match us, hl with | [_, _], _ => rfl
  have F_gain := fun_mk (st := s_gain) l_gain cdw_gain kp_gain
  have b_gain := F_gain.binds (ps := ["program", "multipliers"]) fun _ _ _ _ _ _ us hl => match us, hl with | [_, _], _ => rfl
  have F_law_numbers := fun_mk (st := s_law_numbers) l_law_numbers cdw_law_numbers kp_law_numbers
  have b_law_numbers := F_law_numbers.binds (ps := ["script", "many"]) fun _ _ _ _ _ _ us hl => match us, hl with | [_, _], _ => rfl
  have F_law_lowest := fun_mk (st := s_law_lowest) l_law_lowest cdw_law_lowest kp_law_lowest
  have b_law_lowest := F_law_lowest.binds (ps := ["p", "q"]) fun _ _ _ _ _ _ us hl => match us, hl with | [_, _], _ => rfl
  have F_law_plus := fun_mk (st := s_law_plus) l_law_plus cdw_law_plus kp_law_plus
  have b_law_plus := F_law_plus.binds (ps := ["first", "second"]) fun _ _ _ _ _ _ us hl => match us, hl with | [_, _], _ => rfl
  have F_law_times := fun_mk (st := s_law_times) l_law_times cdw_law_times kp_law_times
  have b_law_times := F_law_times.binds (ps := ["first", "second"]) fun _ _ _ _ _ _ us hl => match us, hl with | [_, _], _ => rfl
  have F_law_less := fun_mk (st := s_law_less) l_law_less cdw_law_less kp_law_less
  have b_law_less := F_law_less.binds (ps := ["first", "second"]) fun _ _ _ _ _ _ us hl => match us, hl with | [_, _], _ => rfl
  have F_law_added := fun_mk (st := s_law_added) l_law_added cdw_law_added kp_law_added
  have b_law_added := F_law_added.binds (ps := ["rows"]) fun _ _ _ _ _ _ us hl => match us, hl with | [_], _ => rfl
  have F_law_weighted := fun_mk (st := s_law_weighted) l_law_weighted cdw_law_weighted kp_law_weighted
  have b_law_weighted := F_law_weighted.binds (ps := ["numbers", "values"]) fun _ _ _ _ _ _ us hl => match us, hl with | [_, _], _ => rfl
  have F_law_drawn := fun_mk (st := s_law_drawn) l_law_drawn cdw_law_drawn kp_law_drawn
  have b_law_drawn := F_law_drawn.binds (ps := ["numbers", "at", "many", "count", "wide"]) fun _ _ _ _ _ _ us hl => match us, hl with | [_, _, _, _, _], _ => rfl
  have F_law_fits := fun_mk (st := s_law_fits) l_law_fits cdw_law_fits kp_law_fits
  have b_law_fits := F_law_fits.binds (ps := ["row", "values"]) fun _ _ _ _ _ _ us hl => match us, hl with | [_, _], _ => rfl
  have F_law_solution := fun_mk (st := s_law_solution) l_law_solution cdw_law_solution kp_law_solution
  have b_law_solution := F_law_solution.binds (ps := ["many", "rows", "values"]) fun _ _ _ _ _ _ us hl => match us, hl with | [_, _, _], _ => rfl
  have F_law_fit := fun_mk (st := s_law_fit) l_law_fit cdw_law_fit kp_law_fit
  have b_law_fit := F_law_fit.binds (ps := ["rows", "weights"]) fun _ _ _ _ _ _ us hl => match us, hl with | [_, _], _ => rfl
  have F_law_load := fun_mk (st := s_law_load) l_law_load cdw_law_load kp_law_load
  have b_law_load := F_law_load.binds (ps := ["rows", "weights", "j"]) fun _ _ _ _ _ _ us hl => match us, hl with | [_, _, _], _ => rfl
  have F_law_gain := fun_mk (st := s_law_gain) l_law_gain cdw_law_gain kp_law_gain
  have b_law_gain := F_law_gain.binds (ps := ["rows", "weights"]) fun _ _ _ _ _ _ us hl => match us, hl with | [_, _], _ => rfl
  have F_law_some := fun_mk (st := s_law_some) l_law_some cdw_law_some kp_law_some
  have b_law_some := F_law_some.binds (ps := ["numbers", "at", "k"]) fun _ _ _ _ _ _ us hl => match us, hl with | [_, _, _], _ => rfl
  have F_law_refused := fun_mk (st := s_law_refused) l_law_refused cdw_law_refused kp_law_refused
  have b_law_refused := F_law_refused.binds (ps := ["way", "program", "weights"]) fun _ _ _ _ _ _ us hl => match us, hl with | [_, _, _], _ => rfl
  have F_law_signed := fun_mk (st := s_law_signed) l_law_signed cdw_law_signed kp_law_signed
  have b_law_signed := F_law_signed.binds (ps := ["rows", "weights"]) fun _ _ _ _ _ _ us hl => match us, hl with | [_, _], _ => rfl
  have F_law := fun_mk (st := s_law) l_law cdw_law kp_law
  have b_law := F_law.binds (ps := ["script"]) fun _ _ _ _ _ _ us hl => match us, hl with | [_], _ => rfl
  exact ⟨PySem.W.fnOf "law" "law" (defArgs s_law) (defBody s_law) (defScope s_law) .none kV_law dc_law pm_law an_law cd_law ct_law, fun s u => .of_eq rfl, fun base _ _ => ok_law (K := K) (mg := mg) {
    f_WebError___init__ := f_WebError___init__,
    fd_WebError___init__ := PySem.W.fnOf "__init__" "WebError.__init__" (defArgs s_WebError___init__) (defBody s_WebError___init__) (defScope s_WebError___init__) .none kV_WebError___init__ dc_WebError___init__ pm_WebError___init__ an_WebError___init__ cd_WebError___init__ ct_WebError___init__,
    F_WebError___init__ := F_WebError___init__,
    b_WebError___init__ := b_WebError___init__,
    f_fraction := f_fraction,
    fd_fraction := PySem.W.fnOf "fraction" "fraction" (defArgs s_fraction) (defBody s_fraction) (defScope s_fraction) .none kV_fraction dc_fraction pm_fraction an_fraction cd_fraction ct_fraction,
    F_fraction := F_fraction,
    b_fraction := b_fraction,
    g_fraction := PySem.W.mg_of X G a_fraction,
    f_scaled := f_scaled,
    fd_scaled := PySem.W.fnOf "scaled" "scaled" (defArgs s_scaled) (defBody s_scaled) (defScope s_scaled) .none kV_scaled dc_scaled pm_scaled an_scaled cd_scaled ct_scaled,
    F_scaled := F_scaled,
    b_scaled := b_scaled,
    g_scaled := PySem.W.mg_of X G a_scaled,
    f_Program___init__ := f_Program___init__,
    fd_Program___init__ := PySem.W.fnOf "__init__" "Program.__init__" (defArgs s_Program___init__) (defBody s_Program___init__) (defScope s_Program___init__) .none kV_Program___init__ dc_Program___init__ pm_Program___init__ an_Program___init__ cd_Program___init__ ct_Program___init__,
    F_Program___init__ := F_Program___init__,
    b_Program___init__ := b_Program___init__,
    f_Program_count := f_Program_count,
    fd_Program_count := PySem.W.fnOf "count" "Program.count" (defArgs s_Program_count) (defBody s_Program_count) (defScope s_Program_count) .none kV_Program_count dc_Program_count pm_Program_count an_Program_count cd_Program_count ct_Program_count,
    F_Program_count := F_Program_count,
    b_Program_count := b_Program_count,
    f_Program_rows := f_Program_rows,
    fd_Program_rows := PySem.W.fnOf "rows" "Program.rows" (defArgs s_Program_rows) (defBody s_Program_rows) (defScope s_Program_rows) .none kV_Program_rows dc_Program_rows pm_Program_rows an_Program_rows cd_Program_rows ct_Program_rows,
    F_Program_rows := F_Program_rows,
    b_Program_rows := b_Program_rows,
    f_dot := f_dot,
    fd_dot := PySem.W.fnOf "dot" "dot" (defArgs s_dot) (defBody s_dot) (defScope s_dot) .none kV_dot dc_dot pm_dot an_dot cd_dot ct_dot,
    F_dot := F_dot,
    b_dot := b_dot,
    g_dot := PySem.W.mg_of X G a_dot,
    f_is_fit := f_is_fit,
    fd_is_fit := PySem.W.fnOf "is_fit" "is_fit" (defArgs s_is_fit) (defBody s_is_fit) (defScope s_is_fit) .none kV_is_fit dc_is_fit pm_is_fit an_is_fit cd_is_fit ct_is_fit,
    F_is_fit := F_is_fit,
    b_is_fit := b_is_fit,
    g_is_fit := PySem.W.mg_of X G a_is_fit,
    f_are_fit := f_are_fit,
    fd_are_fit := PySem.W.fnOf "are_fit" "are_fit" (defArgs s_are_fit) (defBody s_are_fit) (defScope s_are_fit) .none kV_are_fit dc_are_fit pm_are_fit an_are_fit cd_are_fit ct_are_fit,
    F_are_fit := F_are_fit,
    b_are_fit := b_are_fit,
    g_are_fit := PySem.W.mg_of X G a_are_fit,
    f_scaled_for := f_scaled_for,
    fd_scaled_for := PySem.W.fnOf "scaled_for" "scaled_for" (defArgs s_scaled_for) (defBody s_scaled_for) (defScope s_scaled_for) .none kV_scaled_for dc_scaled_for pm_scaled_for an_scaled_for cd_scaled_for ct_scaled_for,
    F_scaled_for := F_scaled_for,
    b_scaled_for := b_scaled_for,
    g_scaled_for := PySem.W.mg_of X G a_scaled_for,
    f_loads := f_loads,
    fd_loads := PySem.W.fnOf "loads" "loads" (defArgs s_loads) (defBody s_loads) (defScope s_loads) .none kV_loads dc_loads pm_loads an_loads cd_loads ct_loads,
    F_loads := F_loads,
    b_loads := b_loads,
    g_loads := PySem.W.mg_of X G a_loads,
    f_gain := f_gain,
    fd_gain := PySem.W.fnOf "gain" "gain" (defArgs s_gain) (defBody s_gain) (defScope s_gain) .none kV_gain dc_gain pm_gain an_gain cd_gain ct_gain,
    F_gain := F_gain,
    b_gain := b_gain,
    g_gain := PySem.W.mg_of X G a_gain,
    f_law_numbers := f_law_numbers,
    fd_law_numbers := PySem.W.fnOf "_law_numbers" "_law_numbers" (defArgs s_law_numbers) (defBody s_law_numbers) (defScope s_law_numbers) .none kV_law_numbers dc_law_numbers pm_law_numbers an_law_numbers cd_law_numbers ct_law_numbers,
    F_law_numbers := F_law_numbers,
    b_law_numbers := b_law_numbers,
    g_law_numbers := PySem.W.mg_of X G a_law_numbers,
    f_law_lowest := f_law_lowest,
    fd_law_lowest := PySem.W.fnOf "_law_lowest" "_law_lowest" (defArgs s_law_lowest) (defBody s_law_lowest) (defScope s_law_lowest) .none kV_law_lowest dc_law_lowest pm_law_lowest an_law_lowest cd_law_lowest ct_law_lowest,
    F_law_lowest := F_law_lowest,
    b_law_lowest := b_law_lowest,
    g_law_lowest := PySem.W.mg_of X G a_law_lowest,
    f_law_plus := f_law_plus,
    fd_law_plus := PySem.W.fnOf "_law_plus" "_law_plus" (defArgs s_law_plus) (defBody s_law_plus) (defScope s_law_plus) .none kV_law_plus dc_law_plus pm_law_plus an_law_plus cd_law_plus ct_law_plus,
    F_law_plus := F_law_plus,
    b_law_plus := b_law_plus,
    g_law_plus := PySem.W.mg_of X G a_law_plus,
    f_law_times := f_law_times,
    fd_law_times := PySem.W.fnOf "_law_times" "_law_times" (defArgs s_law_times) (defBody s_law_times) (defScope s_law_times) .none kV_law_times dc_law_times pm_law_times an_law_times cd_law_times ct_law_times,
    F_law_times := F_law_times,
    b_law_times := b_law_times,
    g_law_times := PySem.W.mg_of X G a_law_times,
    f_law_less := f_law_less,
    fd_law_less := PySem.W.fnOf "_law_less" "_law_less" (defArgs s_law_less) (defBody s_law_less) (defScope s_law_less) .none kV_law_less dc_law_less pm_law_less an_law_less cd_law_less ct_law_less,
    F_law_less := F_law_less,
    b_law_less := b_law_less,
    g_law_less := PySem.W.mg_of X G a_law_less,
    f_law_added := f_law_added,
    fd_law_added := PySem.W.fnOf "_law_added" "_law_added" (defArgs s_law_added) (defBody s_law_added) (defScope s_law_added) .none kV_law_added dc_law_added pm_law_added an_law_added cd_law_added ct_law_added,
    F_law_added := F_law_added,
    b_law_added := b_law_added,
    g_law_added := PySem.W.mg_of X G a_law_added,
    f_law_weighted := f_law_weighted,
    fd_law_weighted := PySem.W.fnOf "_law_weighted" "_law_weighted" (defArgs s_law_weighted) (defBody s_law_weighted) (defScope s_law_weighted) .none kV_law_weighted dc_law_weighted pm_law_weighted an_law_weighted cd_law_weighted ct_law_weighted,
    F_law_weighted := F_law_weighted,
    b_law_weighted := b_law_weighted,
    g_law_weighted := PySem.W.mg_of X G a_law_weighted,
    f_law_drawn := f_law_drawn,
    fd_law_drawn := PySem.W.fnOf "_law_drawn" "_law_drawn" (defArgs s_law_drawn) (defBody s_law_drawn) (defScope s_law_drawn) .none kV_law_drawn dc_law_drawn pm_law_drawn an_law_drawn cd_law_drawn ct_law_drawn,
    F_law_drawn := F_law_drawn,
    b_law_drawn := b_law_drawn,
    g_law_drawn := PySem.W.mg_of X G a_law_drawn,
    f_law_fits := f_law_fits,
    fd_law_fits := PySem.W.fnOf "_law_fits" "_law_fits" (defArgs s_law_fits) (defBody s_law_fits) (defScope s_law_fits) .none kV_law_fits dc_law_fits pm_law_fits an_law_fits cd_law_fits ct_law_fits,
    F_law_fits := F_law_fits,
    b_law_fits := b_law_fits,
    g_law_fits := PySem.W.mg_of X G a_law_fits,
    f_law_solution := f_law_solution,
    fd_law_solution := PySem.W.fnOf "_law_solution" "_law_solution" (defArgs s_law_solution) (defBody s_law_solution) (defScope s_law_solution) .none kV_law_solution dc_law_solution pm_law_solution an_law_solution cd_law_solution ct_law_solution,
    F_law_solution := F_law_solution,
    b_law_solution := b_law_solution,
    g_law_solution := PySem.W.mg_of X G a_law_solution,
    f_law_fit := f_law_fit,
    fd_law_fit := PySem.W.fnOf "_law_fit" "_law_fit" (defArgs s_law_fit) (defBody s_law_fit) (defScope s_law_fit) .none kV_law_fit dc_law_fit pm_law_fit an_law_fit cd_law_fit ct_law_fit,
    F_law_fit := F_law_fit,
    b_law_fit := b_law_fit,
    g_law_fit := PySem.W.mg_of X G a_law_fit,
    f_law_load := f_law_load,
    fd_law_load := PySem.W.fnOf "_law_load" "_law_load" (defArgs s_law_load) (defBody s_law_load) (defScope s_law_load) .none kV_law_load dc_law_load pm_law_load an_law_load cd_law_load ct_law_load,
    F_law_load := F_law_load,
    b_law_load := b_law_load,
    g_law_load := PySem.W.mg_of X G a_law_load,
    f_law_gain := f_law_gain,
    fd_law_gain := PySem.W.fnOf "_law_gain" "_law_gain" (defArgs s_law_gain) (defBody s_law_gain) (defScope s_law_gain) .none kV_law_gain dc_law_gain pm_law_gain an_law_gain cd_law_gain ct_law_gain,
    F_law_gain := F_law_gain,
    b_law_gain := b_law_gain,
    g_law_gain := PySem.W.mg_of X G a_law_gain,
    f_law_some := f_law_some,
    fd_law_some := PySem.W.fnOf "_law_some" "_law_some" (defArgs s_law_some) (defBody s_law_some) (defScope s_law_some) .none kV_law_some dc_law_some pm_law_some an_law_some cd_law_some ct_law_some,
    F_law_some := F_law_some,
    b_law_some := b_law_some,
    g_law_some := PySem.W.mg_of X G a_law_some,
    f_law_refused := f_law_refused,
    fd_law_refused := PySem.W.fnOf "_law_refused" "_law_refused" (defArgs s_law_refused) (defBody s_law_refused) (defScope s_law_refused) .none kV_law_refused dc_law_refused pm_law_refused an_law_refused cd_law_refused ct_law_refused,
    F_law_refused := F_law_refused,
    b_law_refused := b_law_refused,
    g_law_refused := PySem.W.mg_of X G a_law_refused,
    f_law_signed := f_law_signed,
    fd_law_signed := PySem.W.fnOf "_law_signed" "_law_signed" (defArgs s_law_signed) (defBody s_law_signed) (defScope s_law_signed) .none kV_law_signed dc_law_signed pm_law_signed an_law_signed cd_law_signed ct_law_signed,
    F_law_signed := F_law_signed,
    b_law_signed := b_law_signed,
    g_law_signed := PySem.W.mg_of X G a_law_signed,
    f_law := f_law,
    fd_law := PySem.W.fnOf "law" "law" (defArgs s_law) (defBody s_law) (defScope s_law) .none kV_law dc_law pm_law an_law cd_law ct_law,
    F_law := F_law,
    b_law := b_law,
    g_law := PySem.W.mg_of X G a_law,
    c_Program := c_Program,
    g_Program := PySem.W.mg_of X G aC_Program,
    cl_Program := ⟨pg_Program, hd_Program, po_Program, sa_Program⟩,
    mk_Program := ⟨mk_Program, a_Program___init__, i_Program___init__, kc_Program⟩,
    m_Program_count := ⟨a_Program_count, i_Program_count, kp_Program_count⟩,
    m_Program_rows := ⟨a_Program_rows, i_Program_rows, kp_Program_rows⟩,
    na_Program__prices := na_Program__prices,
    na_Program__rows := na_Program__rows,
    c_WebError := c_WebError,
    x_WebError := ⟨⟨⟨_, _, _, _, _, _, _, _, _, _, _, _, _, _, _, xL_WebError, rv_WebError⟩, sa_WebError, eC_WebError, tC_WebError, kC_WebError⟩, nb_WebError, in_WebError, ty_WebError___init__, PySem.W.mg_of X G aC_WebError⟩,
    e_WebError := ⟨ga_WebError, gg_WebError, eC_WebError, hC_WebError, cl_WebError, gt, tk, mr_WebError⟩,
    ef_WebError := ⟨ga_WebError, gg_WebError, eC_WebError, hC_WebError⟩,
    c_OutOfRange := c_OutOfRange,
    x_OutOfRange := ⟨⟨⟨_, _, _, _, _, _, _, _, _, _, _, _, _, _, _, xL_OutOfRange, rv_OutOfRange⟩, sa_OutOfRange, eC_OutOfRange, tC_OutOfRange, kC_OutOfRange⟩, nb_OutOfRange, in_OutOfRange, ty_WebError___init__, PySem.W.mg_of X G aC_OutOfRange⟩,
    e_OutOfRange := ⟨ga_OutOfRange, gg_OutOfRange, eC_OutOfRange, hC_OutOfRange, cl_OutOfRange, gt, tk, mr_OutOfRange⟩,
    ef_OutOfRange := ⟨ga_OutOfRange, gg_OutOfRange, eC_OutOfRange, hC_OutOfRange⟩,
    em_OutOfRange := Z.exm_of eC_WebError ib tC_WebError sb_OutOfRange,
    is_OutOfRange_OutOfRange := is_OutOfRange_OutOfRange,
    is_OutOfRange_TooMany := is_OutOfRange_TooMany,
    is_OutOfRange_ZeroDivisor := is_OutOfRange_ZeroDivisor,
    is_OutOfRange_BadRelation := is_OutOfRange_BadRelation,
    is_OutOfRange_WrongSize := is_OutOfRange_WrongSize,
    c_TooMany := c_TooMany,
    x_TooMany := ⟨⟨⟨_, _, _, _, _, _, _, _, _, _, _, _, _, _, _, xL_TooMany, rv_TooMany⟩, sa_TooMany, eC_TooMany, tC_TooMany, kC_TooMany⟩, nb_TooMany, in_TooMany, ty_WebError___init__, PySem.W.mg_of X G aC_TooMany⟩,
    e_TooMany := ⟨ga_TooMany, gg_TooMany, eC_TooMany, hC_TooMany, cl_TooMany, gt, tk, mr_TooMany⟩,
    ef_TooMany := ⟨ga_TooMany, gg_TooMany, eC_TooMany, hC_TooMany⟩,
    em_TooMany := Z.exm_of eC_WebError ib tC_WebError sb_TooMany,
    is_TooMany_OutOfRange := is_TooMany_OutOfRange,
    is_TooMany_TooMany := is_TooMany_TooMany,
    is_TooMany_ZeroDivisor := is_TooMany_ZeroDivisor,
    is_TooMany_BadRelation := is_TooMany_BadRelation,
    is_TooMany_WrongSize := is_TooMany_WrongSize,
    c_ZeroDivisor := c_ZeroDivisor,
    x_ZeroDivisor := ⟨⟨⟨_, _, _, _, _, _, _, _, _, _, _, _, _, _, _, xL_ZeroDivisor, rv_ZeroDivisor⟩, sa_ZeroDivisor, eC_ZeroDivisor, tC_ZeroDivisor, kC_ZeroDivisor⟩, nb_ZeroDivisor, in_ZeroDivisor, ty_WebError___init__, PySem.W.mg_of X G aC_ZeroDivisor⟩,
    e_ZeroDivisor := ⟨ga_ZeroDivisor, gg_ZeroDivisor, eC_ZeroDivisor, hC_ZeroDivisor, cl_ZeroDivisor, gt, tk, mr_ZeroDivisor⟩,
    ef_ZeroDivisor := ⟨ga_ZeroDivisor, gg_ZeroDivisor, eC_ZeroDivisor, hC_ZeroDivisor⟩,
    em_ZeroDivisor := Z.exm_of eC_WebError ib tC_WebError sb_ZeroDivisor,
    is_ZeroDivisor_OutOfRange := is_ZeroDivisor_OutOfRange,
    is_ZeroDivisor_TooMany := is_ZeroDivisor_TooMany,
    is_ZeroDivisor_ZeroDivisor := is_ZeroDivisor_ZeroDivisor,
    is_ZeroDivisor_BadRelation := is_ZeroDivisor_BadRelation,
    is_ZeroDivisor_WrongSize := is_ZeroDivisor_WrongSize,
    c_BadRelation := c_BadRelation,
    x_BadRelation := ⟨⟨⟨_, _, _, _, _, _, _, _, _, _, _, _, _, _, _, xL_BadRelation, rv_BadRelation⟩, sa_BadRelation, eC_BadRelation, tC_BadRelation, kC_BadRelation⟩, nb_BadRelation, in_BadRelation, ty_WebError___init__, PySem.W.mg_of X G aC_BadRelation⟩,
    e_BadRelation := ⟨ga_BadRelation, gg_BadRelation, eC_BadRelation, hC_BadRelation, cl_BadRelation, gt, tk, mr_BadRelation⟩,
    ef_BadRelation := ⟨ga_BadRelation, gg_BadRelation, eC_BadRelation, hC_BadRelation⟩,
    em_BadRelation := Z.exm_of eC_WebError ib tC_WebError sb_BadRelation,
    is_BadRelation_OutOfRange := is_BadRelation_OutOfRange,
    is_BadRelation_TooMany := is_BadRelation_TooMany,
    is_BadRelation_ZeroDivisor := is_BadRelation_ZeroDivisor,
    is_BadRelation_BadRelation := is_BadRelation_BadRelation,
    is_BadRelation_WrongSize := is_BadRelation_WrongSize,
    c_WrongSize := c_WrongSize,
    x_WrongSize := ⟨⟨⟨_, _, _, _, _, _, _, _, _, _, _, _, _, _, _, xL_WrongSize, rv_WrongSize⟩, sa_WrongSize, eC_WrongSize, tC_WrongSize, kC_WrongSize⟩, nb_WrongSize, in_WrongSize, ty_WebError___init__, PySem.W.mg_of X G aC_WrongSize⟩,
    e_WrongSize := ⟨ga_WrongSize, gg_WrongSize, eC_WrongSize, hC_WrongSize, cl_WrongSize, gt, tk, mr_WrongSize⟩,
    ef_WrongSize := ⟨ga_WrongSize, gg_WrongSize, eC_WrongSize, hC_WrongSize⟩,
    em_WrongSize := Z.exm_of eC_WebError ib tC_WebError sb_WrongSize,
    is_WrongSize_OutOfRange := is_WrongSize_OutOfRange,
    is_WrongSize_TooMany := is_WrongSize_TooMany,
    is_WrongSize_ZeroDivisor := is_WrongSize_ZeroDivisor,
    is_WrongSize_BadRelation := is_WrongSize_BadRelation,
    is_WrongSize_WrongSize := is_WrongSize_WrongSize,
    z_len := PySem.W.mg_none_of X G z_len,
    z_range := PySem.W.mg_none_of X G z_range,
    z_abs := PySem.W.mg_none_of X G z_abs,
    z_int := PySem.W.mg_none_of X G z_int,
    z_sum := PySem.W.mg_none_of X G z_sum,
    z_isinstance := PySem.W.mg_none_of X G z_isinstance,
    z_list := PySem.W.mg_none_of X G z_list,
    z_enumerate := PySem.W.mg_none_of X G z_enumerate,
    z_zip := PySem.W.mg_none_of X G z_zip,
    z_all := PySem.W.mg_none_of X G z_all,
    z_repr := PySem.W.mg_none_of X G z_repr,
    z_gcd := PySem.W.mg_of X G z_gcd,
    z_lcm := PySem.W.mg_of X G z_lcm,
    t_MOST_VARIABLES := t_MOST_VARIABLES,
    k_MOST_VARIABLES := PySem.W.mg_of X G k_MOST_VARIABLES,
    t_MOST_ROWS := t_MOST_ROWS,
    k_MOST_ROWS := PySem.W.mg_of X G k_MOST_ROWS,
    c_RELATIONS := c_RELATIONS,
    k_RELATIONS := PySem.W.mg_of X G aC_RELATIONS,
    q_RELATIONS := fun H => .inr ⟨_, _, _, l_RELATIONS, v_RELATIONS.1, rfl, v_RELATIONS.2.1, v_RELATIONS.2.2⟩ }⟩
theorem walk {l : PySem.W.OpenLaw} {q : Program} {loose : List Str} {XP : (Str → Option Value) → Heap → Prop} {YP : World → Heap → Prop} {d : DefRec} {K : Params → PySem.W.Frag} (hn : l.most = some 63) (hdf : d.params.defaults = [])
    (hY : ∀ (w : World) (h : Heap), YP w h → (K w.params).In h)
    (F : ∀ (w : World) (mg : Str → Option Value) (fa : Addr) (h : Heap), (K w.params).In h → h.Ns mainGlobals mg → mg d.name = some (.ref fa) →
      ∃ fd : FuncData, (∀ (s : Shared) (u : Value), BindsTo s fd ⟨[u], []⟩ [("script", u)]) ∧ ∀ base : Heap, (K w.params).In base → base.Ns mainGlobals mg → Z.RunAt l.prog w (K w.params) mg base (L2.CX l.prog w) 7 fa fd ["script"] (spLaw (K w.params))) :
    PySem.W.WalkO q loose XP YP l.row.toRowW d [] (fun f vs => PySem.call f vs) :=
  Z.walk_at (n := 63) (k := 7) (x := "script") (CX := fun w => L2.CX l.prog w) (sp := fun w => spLaw (K w.params)) hn (by decide) hdf ⟨rfl, by decide, by decide⟩ hY F
    (fun w H a ns hn hS => ⟨ns, H, [], hn, Z.Lay.nil, .cons ⟨a, rfl, hS⟩ .nil, fun G' H' v _ _ hv => by cases hv; rfl⟩)
    (fun w H s e s' z => by
      obtain ⟨_, _, _, _, _, _, _, _, _, _, _, _, z⟩ := z
      exact z)
end Q

set_option Elab.async false
open PySem PySem.W PyProof.Rows in
set_option maxRecDepth 100000 in
set_option maxHeartbeats 0 in
theorem PySem.Challenge.cw_trunkweb_k57_loads_gains_and_fit_multipl_holds : PySem.Challenge.rw_trunkweb_k57_loads_gains_and_fit_multipl.Holds := by
  w_on; o_law; k_head; (case hw => w_witness2)
  k_fill
  refine Q.walk (l := PySem.Challenge.rw_trunkweb_k57_loads_gains_and_fit_multipl) rfl rfl (fun w h Y => PySem.W.kIn_of Y) ?F
  case F =>
    intro w mg fa h KX G hmg
    refine' Q.all_mk KX G hmg ?aC_Program ?aC_WebError ?aC_OutOfRange ?aC_TooMany ?aC_ZeroDivisor ?aC_BadRelation ?aC_WrongSize ?a_WebError___init__ ?ty_WebError___init__ ?l_WebError___init__ ?cdw_WebError___init__ ?kp_WebError___init__ ?a_fraction ?l_fraction ?cdw_fraction ?kp_fraction ?a_scaled ?l_scaled ?cdw_scaled ?kp_scaled ?a_Program___init__ ?i_Program___init__ ?l_Program___init__ ?cdw_Program___init__ ?kp_Program___init__ ?a_Program_count ?i_Program_count ?l_Program_count ?cdw_Program_count ?kp_Program_count ?a_Program_rows ?i_Program_rows ?l_Program_rows ?cdw_Program_rows ?kp_Program_rows ?a_dot ?l_dot ?cdw_dot ?kp_dot ?a_is_fit ?l_is_fit ?cdw_is_fit ?kp_is_fit ?a_are_fit ?l_are_fit ?cdw_are_fit ?kp_are_fit ?a_scaled_for ?l_scaled_for ?cdw_scaled_for ?kp_scaled_for ?a_loads ?l_loads ?cdw_loads ?kp_loads ?a_gain ?l_gain ?cdw_gain ?kp_gain ?a_law_numbers ?l_law_numbers ?cdw_law_numbers ?kp_law_numbers ?a_law_lowest ?l_law_lowest ?cdw_law_lowest ?kp_law_lowest ?a_law_plus ?l_law_plus ?cdw_law_plus ?kp_law_plus ?a_law_times ?l_law_times ?cdw_law_times ?kp_law_times ?a_law_less ?l_law_less ?cdw_law_less ?kp_law_less ?a_law_added ?l_law_added ?cdw_law_added ?kp_law_added ?a_law_weighted ?l_law_weighted ?cdw_law_weighted ?kp_law_weighted ?a_law_drawn ?l_law_drawn ?cdw_law_drawn ?kp_law_drawn ?a_law_fits ?l_law_fits ?cdw_law_fits ?kp_law_fits ?a_law_solution ?l_law_solution ?cdw_law_solution ?kp_law_solution ?a_law_fit ?l_law_fit ?cdw_law_fit ?kp_law_fit ?a_law_load ?l_law_load ?cdw_law_load ?kp_law_load ?a_law_gain ?l_law_gain ?cdw_law_gain ?kp_law_gain ?a_law_some ?l_law_some ?cdw_law_some ?kp_law_some ?a_law_refused ?l_law_refused ?cdw_law_refused ?kp_law_refused ?a_law_signed ?l_law_signed ?cdw_law_signed ?kp_law_signed ?a_law ?l_law ?cdw_law ?kp_law ?pg_Program ?hd_Program ?po_Program ?sa_Program ?mk_Program ?kc_Program ?na_Program__prices ?na_Program__rows ?gt ?tk ?ib ?xL_WebError ?rv_WebError ?sa_WebError ?ga_WebError ?gg_WebError ?nb_WebError ?in_WebError ?eC_WebError ?tC_WebError ?hC_WebError ?kC_WebError ?cl_WebError ?mr_WebError ?xL_OutOfRange ?rv_OutOfRange ?sa_OutOfRange ?ga_OutOfRange ?gg_OutOfRange ?nb_OutOfRange ?in_OutOfRange ?eC_OutOfRange ?tC_OutOfRange ?hC_OutOfRange ?kC_OutOfRange ?cl_OutOfRange ?mr_OutOfRange ?sb_OutOfRange ?is_OutOfRange_OutOfRange ?is_OutOfRange_TooMany ?is_OutOfRange_ZeroDivisor ?is_OutOfRange_BadRelation ?is_OutOfRange_WrongSize ?xL_TooMany ?rv_TooMany ?sa_TooMany ?ga_TooMany ?gg_TooMany ?nb_TooMany ?in_TooMany ?eC_TooMany ?tC_TooMany ?hC_TooMany ?kC_TooMany ?cl_TooMany ?mr_TooMany ?sb_TooMany ?is_TooMany_OutOfRange ?is_TooMany_TooMany ?is_TooMany_ZeroDivisor ?is_TooMany_BadRelation ?is_TooMany_WrongSize ?xL_ZeroDivisor ?rv_ZeroDivisor ?sa_ZeroDivisor ?ga_ZeroDivisor ?gg_ZeroDivisor ?nb_ZeroDivisor ?in_ZeroDivisor ?eC_ZeroDivisor ?tC_ZeroDivisor ?hC_ZeroDivisor ?kC_ZeroDivisor ?cl_ZeroDivisor ?mr_ZeroDivisor ?sb_ZeroDivisor ?is_ZeroDivisor_OutOfRange ?is_ZeroDivisor_TooMany ?is_ZeroDivisor_ZeroDivisor ?is_ZeroDivisor_BadRelation ?is_ZeroDivisor_WrongSize ?xL_BadRelation ?rv_BadRelation ?sa_BadRelation ?ga_BadRelation ?gg_BadRelation ?nb_BadRelation ?in_BadRelation ?eC_BadRelation ?tC_BadRelation ?hC_BadRelation ?kC_BadRelation ?cl_BadRelation ?mr_BadRelation ?sb_BadRelation ?is_BadRelation_OutOfRange ?is_BadRelation_TooMany ?is_BadRelation_ZeroDivisor ?is_BadRelation_BadRelation ?is_BadRelation_WrongSize ?xL_WrongSize ?rv_WrongSize ?sa_WrongSize ?ga_WrongSize ?gg_WrongSize ?nb_WrongSize ?in_WrongSize ?eC_WrongSize ?tC_WrongSize ?hC_WrongSize ?kC_WrongSize ?cl_WrongSize ?mr_WrongSize ?sb_WrongSize ?is_WrongSize_OutOfRange ?is_WrongSize_TooMany ?is_WrongSize_ZeroDivisor ?is_WrongSize_BadRelation ?is_WrongSize_WrongSize ?z_len ?z_range ?z_abs ?z_int ?z_sum ?z_isinstance ?z_list ?z_enumerate ?z_zip ?z_all ?z_repr ?z_gcd ?z_lcm ?k_MOST_VARIABLES ?k_MOST_ROWS ?aC_RELATIONS ?l_RELATIONS ?v_RELATIONS
    (case aC_Program => k_is)
    (case aC_WebError => k_is)
    (case aC_OutOfRange => k_is)
    (case aC_TooMany => k_is)
    (case aC_ZeroDivisor => k_is)
    (case aC_BadRelation => k_is)
    (case aC_WrongSize => k_is)
    (case a_WebError___init__ => k_is)
    (case ty_WebError___init__ => k_is)
    (case l_WebError___init__ => k_is)
    (case cdw_WebError___init__ => k_is)
    (case kp_WebError___init__ => k_is)
    (case a_fraction => k_is)
    (case l_fraction => k_is)
    (case cdw_fraction => k_is)
    (case kp_fraction => k_is)
    (case a_scaled => k_is)
    (case l_scaled => k_is)
    (case cdw_scaled => k_is)
    (case kp_scaled => k_is)
    (case a_Program___init__ => k_is)
    (case i_Program___init__ => k_is)
    (case l_Program___init__ => k_is)
    (case cdw_Program___init__ => k_is)
    (case kp_Program___init__ => k_is)
    (case a_Program_count => k_is)
    (case i_Program_count => k_is)
    (case l_Program_count => k_is)
    (case cdw_Program_count => k_is)
    (case kp_Program_count => k_is)
    (case a_Program_rows => k_is)
    (case i_Program_rows => k_is)
    (case l_Program_rows => k_is)
    (case cdw_Program_rows => k_is)
    (case kp_Program_rows => k_is)
    (case a_dot => k_is)
    (case l_dot => k_is)
    (case cdw_dot => k_is)
    (case kp_dot => k_is)
    (case a_is_fit => k_is)
    (case l_is_fit => k_is)
    (case cdw_is_fit => k_is)
    (case kp_is_fit => k_is)
    (case a_are_fit => k_is)
    (case l_are_fit => k_is)
    (case cdw_are_fit => k_is)
    (case kp_are_fit => k_is)
    (case a_scaled_for => k_is)
    (case l_scaled_for => k_is)
    (case cdw_scaled_for => k_is)
    (case kp_scaled_for => k_is)
    (case a_loads => k_is)
    (case l_loads => k_is)
    (case cdw_loads => k_is)
    (case kp_loads => k_is)
    (case a_gain => k_is)
    (case l_gain => k_is)
    (case cdw_gain => k_is)
    (case kp_gain => k_is)
    (case a_law_numbers => k_is)
    (case l_law_numbers => k_is)
    (case cdw_law_numbers => k_is)
    (case kp_law_numbers => k_is)
    (case a_law_lowest => k_is)
    (case l_law_lowest => k_is)
    (case cdw_law_lowest => k_is)
    (case kp_law_lowest => k_is)
    (case a_law_plus => k_is)
    (case l_law_plus => k_is)
    (case cdw_law_plus => k_is)
    (case kp_law_plus => k_is)
    (case a_law_times => k_is)
    (case l_law_times => k_is)
    (case cdw_law_times => k_is)
    (case kp_law_times => k_is)
    (case a_law_less => k_is)
    (case l_law_less => k_is)
    (case cdw_law_less => k_is)
    (case kp_law_less => k_is)
    (case a_law_added => k_is)
    (case l_law_added => k_is)
    (case cdw_law_added => k_is)
    (case kp_law_added => k_is)
    (case a_law_weighted => k_is)
    (case l_law_weighted => k_is)
    (case cdw_law_weighted => k_is)
    (case kp_law_weighted => k_is)
    (case a_law_drawn => k_is)
    (case l_law_drawn => k_is)
    (case cdw_law_drawn => k_is)
    (case kp_law_drawn => k_is)
    (case a_law_fits => k_is)
    (case l_law_fits => k_is)
    (case cdw_law_fits => k_is)
    (case kp_law_fits => k_is)
    (case a_law_solution => k_is)
    (case l_law_solution => k_is)
    (case cdw_law_solution => k_is)
    (case kp_law_solution => k_is)
    (case a_law_fit => k_is)
    (case l_law_fit => k_is)
    (case cdw_law_fit => k_is)
    (case kp_law_fit => k_is)
    (case a_law_load => k_is)
    (case l_law_load => k_is)
    (case cdw_law_load => k_is)
    (case kp_law_load => k_is)
    (case a_law_gain => k_is)
    (case l_law_gain => k_is)
    (case cdw_law_gain => k_is)
    (case kp_law_gain => k_is)
    (case a_law_some => k_is)
    (case l_law_some => k_is)
    (case cdw_law_some => k_is)
    (case kp_law_some => k_is)
    (case a_law_refused => k_is)
    (case l_law_refused => k_is)
    (case cdw_law_refused => k_is)
    (case kp_law_refused => k_is)
    (case a_law_signed => k_is)
    (case l_law_signed => k_is)
    (case cdw_law_signed => k_is)
    (case kp_law_signed => k_is)
    (case a_law => k_is)
    (case l_law => k_is)
    (case cdw_law => k_is)
    (case kp_law => k_is)
    (case pg_Program => k_is)
    (case hd_Program => k_is)
    (case po_Program => k_is)
    (case sa_Program => k_is)
    (case mk_Program => k_is)
    (case kc_Program => k_is)
    (case na_Program__prices => k_is)
    (case na_Program__rows => k_is)
    (case gt => k_is)
    (case tk => k_is)
    (case ib => k_is)
    (case xL_WebError => k_is)
    (case rv_WebError => first | rfl | decide +kernel)
    (case sa_WebError => k_is)
    (case ga_WebError => k_is)
    (case gg_WebError => k_is)
    (case nb_WebError => k_is)
    (case in_WebError => k_is)
    (case eC_WebError => k_is)
    (case tC_WebError => k_is)
    (case hC_WebError => k_is)
    (case kC_WebError => k_is)
    (case cl_WebError => k_is)
    (case mr_WebError => k_is)
    (case xL_OutOfRange => k_is)
    (case rv_OutOfRange => first | rfl | decide +kernel)
    (case sa_OutOfRange => k_is)
    (case ga_OutOfRange => k_is)
    (case gg_OutOfRange => k_is)
    (case nb_OutOfRange => k_is)
    (case in_OutOfRange => k_is)
    (case eC_OutOfRange => k_is)
    (case tC_OutOfRange => k_is)
    (case hC_OutOfRange => k_is)
    (case kC_OutOfRange => k_is)
    (case cl_OutOfRange => k_is)
    (case mr_OutOfRange => k_is)
    (case sb_OutOfRange => k_is)
    (case is_OutOfRange_OutOfRange => kit_is)
    (case is_OutOfRange_TooMany => kit_is)
    (case is_OutOfRange_ZeroDivisor => kit_is)
    (case is_OutOfRange_BadRelation => kit_is)
    (case is_OutOfRange_WrongSize => kit_is)
    (case xL_TooMany => k_is)
    (case rv_TooMany => first | rfl | decide +kernel)
    (case sa_TooMany => k_is)
    (case ga_TooMany => k_is)
    (case gg_TooMany => k_is)
    (case nb_TooMany => k_is)
    (case in_TooMany => k_is)
    (case eC_TooMany => k_is)
    (case tC_TooMany => k_is)
    (case hC_TooMany => k_is)
    (case kC_TooMany => k_is)
    (case cl_TooMany => k_is)
    (case mr_TooMany => k_is)
    (case sb_TooMany => k_is)
    (case is_TooMany_OutOfRange => kit_is)
    (case is_TooMany_TooMany => kit_is)
    (case is_TooMany_ZeroDivisor => kit_is)
    (case is_TooMany_BadRelation => kit_is)
    (case is_TooMany_WrongSize => kit_is)
    (case xL_ZeroDivisor => k_is)
    (case rv_ZeroDivisor => first | rfl | decide +kernel)
    (case sa_ZeroDivisor => k_is)
    (case ga_ZeroDivisor => k_is)
    (case gg_ZeroDivisor => k_is)
    (case nb_ZeroDivisor => k_is)
    (case in_ZeroDivisor => k_is)
    (case eC_ZeroDivisor => k_is)
    (case tC_ZeroDivisor => k_is)
    (case hC_ZeroDivisor => k_is)
    (case kC_ZeroDivisor => k_is)
    (case cl_ZeroDivisor => k_is)
    (case mr_ZeroDivisor => k_is)
    (case sb_ZeroDivisor => k_is)
    (case is_ZeroDivisor_OutOfRange => kit_is)
    (case is_ZeroDivisor_TooMany => kit_is)
    (case is_ZeroDivisor_ZeroDivisor => kit_is)
    (case is_ZeroDivisor_BadRelation => kit_is)
    (case is_ZeroDivisor_WrongSize => kit_is)
    (case xL_BadRelation => k_is)
    (case rv_BadRelation => first | rfl | decide +kernel)
    (case sa_BadRelation => k_is)
    (case ga_BadRelation => k_is)
    (case gg_BadRelation => k_is)
    (case nb_BadRelation => k_is)
    (case in_BadRelation => k_is)
    (case eC_BadRelation => k_is)
    (case tC_BadRelation => k_is)
    (case hC_BadRelation => k_is)
    (case kC_BadRelation => k_is)
    (case cl_BadRelation => k_is)
    (case mr_BadRelation => k_is)
    (case sb_BadRelation => k_is)
    (case is_BadRelation_OutOfRange => kit_is)
    (case is_BadRelation_TooMany => kit_is)
    (case is_BadRelation_ZeroDivisor => kit_is)
    (case is_BadRelation_BadRelation => kit_is)
    (case is_BadRelation_WrongSize => kit_is)
    (case xL_WrongSize => k_is)
    (case rv_WrongSize => first | rfl | decide +kernel)
    (case sa_WrongSize => k_is)
    (case ga_WrongSize => k_is)
    (case gg_WrongSize => k_is)
    (case nb_WrongSize => k_is)
    (case in_WrongSize => k_is)
    (case eC_WrongSize => k_is)
    (case tC_WrongSize => k_is)
    (case hC_WrongSize => k_is)
    (case kC_WrongSize => k_is)
    (case cl_WrongSize => k_is)
    (case mr_WrongSize => k_is)
    (case sb_WrongSize => k_is)
    (case is_WrongSize_OutOfRange => kit_is)
    (case is_WrongSize_TooMany => kit_is)
    (case is_WrongSize_ZeroDivisor => kit_is)
    (case is_WrongSize_BadRelation => kit_is)
    (case is_WrongSize_WrongSize => kit_is)
    (case z_len => k_is)
    (case z_range => k_is)
    (case z_abs => k_is)
    (case z_int => k_is)
    (case z_sum => k_is)
    (case z_isinstance => k_is)
    (case z_list => k_is)
    (case z_enumerate => k_is)
    (case z_zip => k_is)
    (case z_all => k_is)
    (case z_repr => k_is)
    (case z_gcd => k_is)
    (case z_lcm => k_is)
    (case k_MOST_VARIABLES => k_is)
    (case k_MOST_ROWS => k_is)
    (case aC_RELATIONS => k_is)
    (case l_RELATIONS => k_is)
    (case v_RELATIONS => exact ⟨rfl, by decide, .cons ⟨_, rfl⟩ (.cons ⟨_, rfl⟩ (.cons ⟨_, rfl⟩ (.nil)))⟩)

