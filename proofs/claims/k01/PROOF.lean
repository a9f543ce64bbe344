import PyProof.Rows.All
import HandS.ForMost
import HandS.Exc
import HandS.TryOnly
import HandS.ExcOwn
import HandS.ExcInit
import HandS.ExcField
import HandS.ExcIs
import HandS.WordsExc
import HandS.Wide
import KE.KExcIs
import PyProof.ReprRoads
import HandS.FStr
import HandS.StrMore
import HandS.Steps
import HandS.IsInst
import HandS.Text
import KE.IntTextText
import Wide.All
import OpenK.AllK
import Wide.FinOn
import PySem.Challenge.RW_trunkweb_k01_texts_of_networks
set_option Elab.async false
set_option linter.all false
set_option maxRecDepth 100000
set_option maxHeartbeats 2000000
/-! Z: what a reading comes to, with the heap parted: G what stays, L the cells that are owned. -/
namespace Z
open PySem PySem.Spec PyProof.Rows L2

theorem perm_swap {α : Type} (a b c : List α) : (a ++ (b ++ c)).Perm (b ++ (a ++ c)) := by
  have h : ((a ++ b) ++ c).Perm ((b ++ a) ++ c) := (List.perm_append_comm).append_right c
  rw [List.append_assoc, List.append_assoc] at h
  exact h
abbrev Cell := Addr × HO
/-- H is G with the owned cells L beside -/
structure Lay (G : Hp) (L : List Cell) (H : Hp) : Prop where
  off : ∀ b, (∀ c ∈ L, c.1 ≠ b) → H b = G b
  on : ∀ c ∈ L, H c.1 = some c.2 ∧ G c.1 = none
  nd : (L.map (·.1)).Nodup
theorem Lay.same {G H : Hp} {L : List Cell} (l : Lay G L H) : Same G H := fun b o e => by
  rw [l.off b fun c hc z => ?_]
  · exact e
  · have := (l.on c hc).2
    rw [z, e] at this
    cases this
theorem Lay.fresh {G H : Hp} {L : List Cell} {p : Addr} (l : Lay G L H) (h : H p = none) : ∀ c ∈ L, c.1 ≠ p := fun c hc z => by
  have := (l.on c hc).1
  rw [z, h] at this
  cases this
theorem Lay.freshG {G H : Hp} {L : List Cell} {p : Addr} (l : Lay G L H) (h : H p = none) : G p = none := by
  rw [← l.off p (l.fresh h)]
  exact h
theorem Lay.perm {G H : Hp} {L L' : List Cell} (l : Lay G L H) (q : L.Perm L') : Lay G L' H :=
  ⟨fun b hb => l.off b fun c hc => hb c (q.mem_iff.mp hc), fun c hc => l.on c (q.mem_iff.mpr hc), (q.map _).nodup_iff.mp l.nd⟩
theorem Lay.nil {H : Hp} : Lay H [] H := ⟨fun _ _ => rfl, fun _ h => (by cases h), by simp⟩
theorem Lay.grow {G H : Hp} {L : List Cell} {p : Addr} {o : HO} (l : Lay G L H) (h : H p = none) : Lay (upd G p o) L (upd H p o) := by
  have f := l.fresh h
  refine ⟨fun b hb => ?_, fun c hc => ?_, l.nd⟩
  · by_cases e : b = p
    · rw [e, upd_same, upd_same]
    · rw [upd_ne e, upd_ne e]; exact l.off b hb
  · rw [upd_ne (f c hc), upd_ne (f c hc)]; exact l.on c hc
theorem Lay.cell {G H : Hp} {L : List Cell} {p : Addr} {o : HO} (l : Lay G L H) (h : H p = none) : Lay G ((p, o) :: L) (upd H p o) := by
  have f := l.fresh h
  refine ⟨fun b hb => ?_, fun c hc => ?_, ?_⟩
  · have e : b ≠ p := fun z => hb (p, o) (List.mem_cons_self ..) z.symm
    rw [upd_ne e]
    exact l.off b fun c hc => hb c (List.mem_cons_of_mem _ hc)
  · rcases List.mem_cons.mp hc with z | z
    · subst z; exact ⟨upd_same, l.freshG h⟩
    · rw [upd_ne (f c z)]; exact l.on c z
  · rw [List.map_cons, List.nodup_cons]
    refine ⟨fun z => ?_, l.nd⟩
    obtain ⟨c, hc, e⟩ := List.mem_map.mp z
    exact f c hc e
theorem Lay.ne {G H : Hp} {L : List Cell} {p : Addr} {o : HO} (l : Lay G ((p, o) :: L) H) : ∀ c ∈ L, c.1 ≠ p := fun c hc z => by
  have := l.nd
  rw [List.map_cons, List.nodup_cons] at this
  exact this.1 (List.mem_map.mpr ⟨c, hc, z⟩)
theorem Lay.store {G H : Hp} {L : List Cell} {p : Addr} {o u : HO} (l : Lay G ((p, o) :: L) H) : Lay G ((p, u) :: L) (upd H p u) := by
  have f := l.ne
  have l0 := l.on (p, o) (List.mem_cons_self ..)
  refine ⟨fun b hb => ?_, fun c hc => ?_, by have := l.nd; simpa using this⟩
  · have e : b ≠ p := fun z => hb (p, u) (List.mem_cons_self ..) z.symm
    rw [upd_ne e]
    refine l.off b fun c hc => ?_
    rcases List.mem_cons.mp hc with z | z
    · subst z; exact fun z => e z.symm
    · exact hb c (List.mem_cons_of_mem _ z)
  · rcases List.mem_cons.mp hc with z | z
    · subst z; exact ⟨upd_same, l0.2⟩
    · rw [upd_ne (f c z)]; exact l.on c (List.mem_cons_of_mem _ z)
theorem Lay.freeze {G H : Hp} {L : List Cell} {p : Addr} {o : HO} (l : Lay G ((p, o) :: L) H) : Lay (upd G p o) L H := by
  have f := l.ne
  have l0 := l.on (p, o) (List.mem_cons_self ..)
  refine ⟨fun b hb => ?_, fun c hc => ?_, ?_⟩
  · by_cases e : b = p
    · rw [e, upd_same]; exact l0.1
    · rw [upd_ne e]
      refine l.off b fun c hc => ?_
      rcases List.mem_cons.mp hc with z | z
      · subst z; exact fun z => e z.symm
      · exact hb c z
  · rw [upd_ne (f c hc)]; exact l.on c (List.mem_cons_of_mem _ hc)
  · have := l.nd
    rw [List.map_cons, List.nodup_cons] at this
    exact this.2
theorem same_upd {G : Hp} {p : Addr} {o : HO} (h : G p = none) : Same G (upd G p o) := fun b x e => by
  rw [upd_ne (ne_of_none e h)]; exact e
theorem Lay.freezeAll {G H : Hp} : ∀ {L M : List Cell}, Lay G (L ++ M) H → ∃ G', Same G G' ∧ Lay G' M H ∧ ∀ c ∈ L, G' c.1 = some c.2
  | [], M, l => ⟨G, Same.refl G, l, fun _ h => (by cases h)⟩
  | (p, o) :: L, M, l => by
    have hp := (l.on (p, o) (List.mem_cons_self ..)).2
    have l' : Lay (upd G p o) (L ++ M) H := Lay.freeze l
    obtain ⟨G', s, l'', k⟩ := Lay.freezeAll l'
    refine ⟨G', (same_upd hp).trans s, l'', fun c hc => ?_⟩
    rcases List.mem_cons.mp hc with z | z
    · subst z; exact s _ _ upd_same
    · exact k c z

/-- a new cell taken out again -/
theorem Lay.uncell {G H : Hp} {L : List Cell} {p : Addr} {o : HO} (l : Lay G ((p, o) :: L) H) : ∃ H', H' p = none ∧ H = upd H' p o ∧ Lay G L H' := by
  refine ⟨fun b => if b = p then none else H b, if_pos rfl, ?_, fun b hb => ?_, fun c hc => ?_, ?_⟩
  · funext b
    by_cases hb : b = p
    · rw [hb, upd_same]; exact (l.on _ (List.mem_cons_self ..)).1
    · rw [upd_ne hb, if_neg hb]
  · by_cases h : b = p
    · rw [h, if_pos rfl]; exact ((l.on _ (List.mem_cons_self ..)).2).symm
    · rw [if_neg h]
      refine l.off b fun c hc => ?_
      rcases List.mem_cons.mp hc with z | z
      · subst z; exact fun z => h z.symm
      · exact hb c z
  · rw [if_neg (l.ne c hc)]; exact l.on c (List.mem_cons_of_mem _ hc)
  · have := l.nd
    rw [List.map_cons, List.nodup_cons] at this
    exact this.2

/-! ### descriptions -/
/-- a value, by what stays true as the heap grows -/
structure Rp where
  p : Hp → V → Prop
  up : ∀ {H H' : Hp} {v : V}, Same H H' → p H v → p H' v
/-- an owned thing: its address, its cells -/
structure Op where
  p : Hp → Addr → List Cell → Prop
  up : ∀ {H H' : Hp} {a : Addr} {cs : List Cell}, Same H H' → p H a cs → p H' a cs
/-- a value that may stand in a cell of somebody's: G, the cells -/
structure Bw where
  p : Hp → List Cell → V → Prop
  up : ∀ {H H' : Hp} {L L' : List Cell} {v : V}, Same H H' → (∀ c ∈ L, c ∈ L') → p H L v → p H' L' v
def pu (R : Rp) : Bw := ⟨fun G _ v => R.p G v, fun e _ h => R.up e h⟩
inductive Sl where
  | x | p (R : Rp) | o (O : Op) | b (B : Bw)
inductive Slots (G : Hp) (L0 : List Cell) : L2.St → List Sl → List Cell → Prop
  | nil : Slots G L0 [] [] []
  | x {v σ ρ L} : Slots G L0 σ ρ L → Slots G L0 (v :: σ) (.x :: ρ) L
  | p {R : Rp} {v σ ρ L} : R.p G v → Slots G L0 σ ρ L → Slots G L0 (some v :: σ) (.p R :: ρ) L
  | o {O : Op} {a cs σ ρ L} : O.p G a cs → Slots G L0 σ ρ L → Slots G L0 (some (.ref a) :: σ) (.o O :: ρ) (cs ++ L)
  | b {B : Bw} {v σ ρ L} : B.p G L0 v → Slots G L0 σ ρ L → Slots G L0 (some v :: σ) (.b B :: ρ) L
theorem Slots.up {G G' : Hp} {L0 : List Cell} (e : Same G G') : ∀ {σ ρ L}, Slots G L0 σ ρ L → Slots G' L0 σ ρ L
  | _, _, _, .nil => .nil
  | _, _, _, .x s => .x (s.up e)
  | _, _, _, .p h s => .p (Rp.up _ e h) (s.up e)
  | _, _, _, .o h s => .o (Op.up _ e h) (s.up e)
  | _, _, _, .b h s => .b (Bw.up _ e (fun _ z => z) h) (s.up e)
theorem Slots.get_p {G : Hp} {L0 : List Cell} {R : Rp} : ∀ {σ ρ L} {i : Nat}, Slots G L0 σ ρ L → ρ[i]? = some (.p R) → ∃ v, σ[i]? = some (some v) ∧ R.p G v
  | _, _, _, _, .nil, h => by simp at h
  | _, _, _, 0, .x _, h => by simp at h
  | _, _, _, 0, .p q _, h => by simp at h; subst h; exact ⟨_, rfl, q⟩
  | _, _, _, 0, .o _ _, h => by simp at h
  | _, _, _, 0, .b _ _, h => by simp at h
  | _, _, _, i + 1, .b _ s, h => s.get_p (i := i) (by simpa using h)
  | _, _, _, i + 1, .x s, h => s.get_p (i := i) (by simpa using h)
  | _, _, _, i + 1, .p _ s, h => s.get_p (i := i) (by simpa using h)
  | _, _, _, i + 1, .o _ s, h => s.get_p (i := i) (by simpa using h)
/-- the slot i is set; what it owned is freed -/
theorem Slots.set_p {G : Hp} {L0 : List Cell} {R : Rp} {v : V} (q : R.p G v) : ∀ {σ ρ L} (i : Nat), Slots G L0 σ ρ L → ∃ C L', L.Perm (C ++ L') ∧ Slots G L0 (σ.set i (some v)) (ρ.set i (.p R)) L'
  | _, _, _, _, .nil => ⟨[], [], by simp, .nil⟩
  | _, _, _, 0, .x s => ⟨[], _, by simp, .p q s⟩
  | _, _, _, 0, .p _ s => ⟨[], _, by simp, .p q s⟩
  | _, _, _, 0, .b _ s => ⟨[], _, by simp, .p q s⟩
  | _, _, _, i + 1, .b h s => by
    obtain ⟨C, L', e, s'⟩ := s.set_p q i
    exact ⟨C, L', e, .b h s'⟩
  | _, _, _, 0, .o (cs := cs) _ s => ⟨cs, _, by simp, .p q s⟩
  | _, _, _, i + 1, .x s => by
    obtain ⟨C, L', e, s'⟩ := s.set_p q i
    exact ⟨C, L', e, .x s'⟩
  | _, _, _, i + 1, .p h s => by
    obtain ⟨C, L', e, s'⟩ := s.set_p q i
    exact ⟨C, L', e, .p h s'⟩
  | _, _, _, i + 1, .o (cs := cs) h s => by
    obtain ⟨C, L', e, s'⟩ := s.set_p q i
    refine ⟨C, cs ++ L', ?_, .o h s'⟩
    refine (e.append_left cs).trans ?_
    rw [← List.append_assoc, ← List.append_assoc]
    exact (List.perm_append_comm).append_right L'
theorem Slots.set_o {G : Hp} {L0 : List Cell} {O : Op} {a : Addr} {cs : List Cell} (q : O.p G a cs) : ∀ {σ ρ L} (i : Nat), i < σ.length → Slots G L0 σ ρ L → ∃ C L', L.Perm (C ++ L') ∧ ∃ L'', Slots G L0 (σ.set i (some (.ref a))) (ρ.set i (.o O)) L'' ∧ L''.Perm (cs ++ L')
  | _, _, _, _, h, .nil => by simp at h
  | _, _, _, 0, _, .x s => ⟨[], _, by simp, _, .o q s, .refl _⟩
  | _, _, _, 0, _, .p _ s => ⟨[], _, by simp, _, .o q s, .refl _⟩
  | _, _, _, 0, _, .b _ s => ⟨[], _, by simp, _, .o q s, .refl _⟩
  | _, _, _, i + 1, h, .b h1 s => by
    obtain ⟨C, L', e, L'', s', e'⟩ := s.set_o q i (by simpa using h)
    exact ⟨C, L', e, L'', .b h1 s', e'⟩
  | _, _, _, 0, _, .o (cs := ds) _ s => ⟨ds, _, by simp, _, .o q s, .refl _⟩
  | _, _, _, i + 1, h, .x s => by
    obtain ⟨C, L', e, L'', s', e'⟩ := s.set_o q i (by simpa using h)
    exact ⟨C, L', e, L'', .x s', e'⟩
  | _, _, _, i + 1, h, .p h1 s => by
    obtain ⟨C, L', e, L'', s', e'⟩ := s.set_o q i (by simpa using h)
    exact ⟨C, L', e, L'', .p h1 s', e'⟩
  | _, _, _, i + 1, h, .o (cs := ds) h1 s => by
    obtain ⟨C, L', e, L'', s', e'⟩ := s.set_o q i (by simpa using h)
    refine ⟨C, ds ++ L', ?_, ds ++ L'', .o h1 s', ?_⟩
    · refine (e.append_left ds).trans ?_
      rw [← List.append_assoc, ← List.append_assoc]
      exact (List.perm_append_comm).append_right L'
    · refine (e'.append_left ds).trans ?_
      rw [← List.append_assoc, ← List.append_assoc]
      exact (List.perm_append_comm).append_right L'
/-- the owned thing at slot i, and how it may change -/
theorem Slots.get_o {G : Hp} {L0 : List Cell} {O : Op} : ∀ {σ ρ L} {i : Nat}, Slots G L0 σ ρ L → ρ[i]? = some (.o O) → ∃ a cs M, σ[i]? = some (some (.ref a)) ∧ O.p G a cs ∧ L.Perm (cs ++ M) ∧
    (∀ (O' : Op) (cs' : List Cell), O'.p G a cs' → ∃ L', Slots G L0 σ (ρ.set i (.o O')) L' ∧ L'.Perm (cs' ++ M)) ∧ (∀ (G' : Hp) (R : Rp), Same G G' → R.p G' (.ref a) → Slots G' L0 σ (ρ.set i (.p R)) M)
  | _, _, _, _, .nil, h => by simp at h
  | _, _, _, 0, .x _, h => by simp at h
  | _, _, _, 0, .p _ _, h => by simp at h
  | _, _, _, 0, .b _ _, h => by simp at h
  | _, _, _, i + 1, .b q s, h => by
    obtain ⟨a, cs, M, h1, h2, h3, h4, h5⟩ := s.get_o (i := i) (by simpa using h)
    exact ⟨a, cs, M, by simpa using h1, h2, h3, fun O' cs' q' => by
      obtain ⟨L', s', e⟩ := h4 O' cs' q'
      exact ⟨L', .b q s', e⟩, fun G' R e r => .b (Bw.up _ e (fun _ z => z) q) (h5 G' R e r)⟩
  | _, _, _, 0, .o (a := a) (cs := cs) (L := M) q s, h => by
    simp at h; subst h
    exact ⟨a, cs, M, rfl, q, .refl _, fun O' cs' q' => ⟨_, .o q' s, .refl _⟩, fun G' R e r => .p r (s.up e)⟩
  | _, _, _, i + 1, .x s, h => by
    obtain ⟨a, cs, M, h1, h2, h3, h4, h5⟩ := s.get_o (i := i) (by simpa using h)
    exact ⟨a, cs, M, by simpa using h1, h2, h3, fun O' cs' q' => by
      obtain ⟨L', s', e⟩ := h4 O' cs' q'
      exact ⟨L', .x s', e⟩, fun G' R e r => .x (h5 G' R e r)⟩
  | _, _, _, i + 1, .p q s, h => by
    obtain ⟨a, cs, M, h1, h2, h3, h4, h5⟩ := s.get_o (i := i) (by simpa using h)
    exact ⟨a, cs, M, by simpa using h1, h2, h3, fun O' cs' q' => by
      obtain ⟨L', s', e⟩ := h4 O' cs' q'
      exact ⟨L', .p q s', e⟩, fun G' R e r => .p (Rp.up _ e q) (h5 G' R e r)⟩
  | _, _, _, i + 1, .o (cs := ds) q s, h => by
    obtain ⟨a, cs, M, h1, h2, h3, h4, h5⟩ := s.get_o (i := i) (by simpa using h)
    refine ⟨a, cs, ds ++ M, by simpa using h1, h2, ?_, fun O' cs' q' => ?_, fun G' R e r => .o (Op.up _ e q) (h5 G' R e r)⟩
    · refine (h3.append_left ds).trans ?_
      rw [← List.append_assoc, ← List.append_assoc]
      exact (List.perm_append_comm).append_right M
    · obtain ⟨L', s', e⟩ := h4 O' cs' q'
      refine ⟨ds ++ L', .o q s', ?_⟩
      refine (e.append_left ds).trans ?_
      rw [← List.append_assoc, ← List.append_assoc]
      exact (List.perm_append_comm).append_right M
theorem Slots.len {G : Hp} {L0 : List Cell} : ∀ {σ ρ L}, Slots G L0 σ ρ L → σ.length = ρ.length
  | _, _, _, .nil => rfl
  | _, _, _, .x s => by simp [s.len]
  | _, _, _, .p _ s => by simp [s.len]
  | _, _, _, .o _ s => by simp [s.len]
  | _, _, _, .b _ s => by simp [s.len]

theorem Slots.get_b {G : Hp} {L0 : List Cell} {B : Bw} : ∀ {σ ρ L} {i : Nat}, Slots G L0 σ ρ L → ρ[i]? = some (.b B) → ∃ v, σ[i]? = some (some v) ∧ B.p G L0 v
  | _, _, _, _, .nil, h => by simp at h
  | _, _, _, 0, .x _, h => by simp at h
  | _, _, _, 0, .p q _, h => by simp at h
  | _, _, _, 0, .o _ _, h => by simp at h
  | _, _, _, 0, .b q _, h => by simp at h; subst h; exact ⟨_, rfl, q⟩
  | _, _, _, i + 1, .b _ s, h => s.get_b (i := i) (by simpa using h)
  | _, _, _, i + 1, .x s, h => s.get_b (i := i) (by simpa using h)
  | _, _, _, i + 1, .p _ s, h => s.get_b (i := i) (by simpa using h)
  | _, _, _, i + 1, .o _ s, h => s.get_b (i := i) (by simpa using h)
/-- less is told -/
inductive Wk : List Sl → List Sl → Prop
  | nil : Wk [] []
  | x {s ρ ρ'} : Wk ρ ρ' → Wk (s :: ρ) (.x :: ρ')
  | k {s ρ ρ'} : Wk ρ ρ' → Wk (s :: ρ) (s :: ρ')
theorem Wk.refl : ∀ ρ, Wk ρ ρ
  | [] => .nil
  | _ :: ρ => .k (Wk.refl ρ)
theorem Slots.weak {G : Hp} {L0 : List Cell} : ∀ {σ ρ ρ' L}, Slots G L0 σ ρ L → Wk ρ ρ' → ∃ C L', L.Perm (C ++ L') ∧ Slots G L0 σ ρ' L'
  | _, _, _, _, .nil, .nil => ⟨[], [], by simp, .nil⟩
  | _, _, _, _, .x s, .x w | _, _, _, _, .x s, .k w => by
    obtain ⟨C, L', e, s'⟩ := s.weak w
    exact ⟨C, L', e, .x s'⟩
  | _, _, _, _, .p h s, .x w | _, _, _, _, .b h s, .x w => by
    obtain ⟨C, L', e, s'⟩ := s.weak w
    exact ⟨C, L', e, .x s'⟩
  | _, _, _, _, .p h s, .k w => by
    obtain ⟨C, L', e, s'⟩ := s.weak w
    exact ⟨C, L', e, .p h s'⟩
  | _, _, _, _, .b h s, .k w => by
    obtain ⟨C, L', e, s'⟩ := s.weak w
    exact ⟨C, L', e, .b h s'⟩
  | _, _, _, _, .o (cs := cs) h s, .x w => by
    obtain ⟨C, L', e, s'⟩ := s.weak w
    refine ⟨cs ++ C, L', ?_, .x s'⟩
    rw [List.append_assoc]
    exact e.append_left cs
  | _, _, _, _, .o (cs := cs) h s, .k w => by
    obtain ⟨C, L', e, s'⟩ := s.weak w
    exact ⟨C, cs ++ L', (e.append_left cs).trans (perm_swap _ _ _), .o h s'⟩

/-- the state: G, the slots, the callers' cells L0 -/
def Stt (G : Hp) (ρ : List Sl) (σ : L2.St) (L0 : List Cell) (H : Hp) : Prop := ∃ L, Slots G L0 σ ρ L ∧ Lay G (L ++ L0) H
section
variable {G H : Hp} {ρ : List Sl} {σ : L2.St} {L0 : List Cell}
theorem Stt.same (s : Stt G ρ σ L0 H) : Same G H := by
  obtain ⟨L, _, l⟩ := s
  exact l.same
theorem Stt.len (s : Stt G ρ σ L0 H) : σ.length = ρ.length := by
  obtain ⟨L, h, _⟩ := s
  exact h.len
theorem Stt.get_p (s : Stt G ρ σ L0 H) {R : Rp} {i : Nat} (h : ρ[i]? = some (.p R)) : ∃ v, σ[i]? = some (some v) ∧ R.p G v := by
  obtain ⟨L, q, _⟩ := s
  exact q.get_p h
theorem Stt.get_b (s : Stt G ρ σ L0 H) {B : Bw} {i : Nat} (h : ρ[i]? = some (.b B)) : ∃ v, σ[i]? = some (some v) ∧ B.p G L0 v := by
  obtain ⟨L, q, _⟩ := s
  exact q.get_b h
theorem Stt.weak (s : Stt G ρ σ L0 H) {ρ' : List Sl} (w : Wk ρ ρ') : ∃ G', Same G G' ∧ Stt G' ρ' σ L0 H := by
  obtain ⟨L, q, l⟩ := s
  obtain ⟨C, L', e, q'⟩ := q.weak w
  have l' : Lay G (C ++ (L' ++ L0)) H := by
    rw [← List.append_assoc]
    exact l.perm (e.append_right L0)
  obtain ⟨G', e', l'', _⟩ := l'.freezeAll
  exact ⟨G', e', L', q'.up e', l''⟩
theorem Stt.fin (s : Stt G ρ σ L0 H) : ∃ G', Same G G' ∧ Lay G' L0 H := by
  obtain ⟨L, q, l⟩ := s
  obtain ⟨G', e', l'', _⟩ := l.freezeAll
  exact ⟨G', e', l''⟩
theorem Stt.grow (s : Stt G ρ σ L0 H) {p : Addr} {o : HO} (h : H p = none) : Same G (upd G p o) ∧ Stt (upd G p o) ρ σ L0 (upd H p o) := by
  obtain ⟨L, q, l⟩ := s
  have e := same_upd (o := o) (l.freshG h)
  exact ⟨e, L, q.up e, l.grow h⟩
theorem Stt.set_p (s : Stt G ρ σ L0 H) {R : Rp} {v : V} (r : R.p G v) (i : Nat) : ∃ G', Same G G' ∧ Stt G' (ρ.set i (.p R)) (σ.set i (some v)) L0 H := by
  obtain ⟨L, q, l⟩ := s
  obtain ⟨C, L', e, q'⟩ := q.set_p r i
  have l' : Lay G (C ++ (L' ++ L0)) H := by
    rw [← List.append_assoc]
    exact l.perm (e.append_right L0)
  obtain ⟨G', e', l'', _⟩ := l'.freezeAll
  exact ⟨G', e', L', q'.up e', l''⟩
/-- a new owned thing, its cells already laid beside -/
theorem Stt.set_o (s : Stt G ρ σ L0 H) {O : Op} {a : Addr} {cs : List Cell} {H' : Hp} (r : O.p G a cs) (i : Nat) (hi : i < ρ.length) (hl : ∀ M, Lay G M H → Lay G (cs ++ M) H') : ∃ G', Same G G' ∧ Stt G' (ρ.set i (.o O)) (σ.set i (some (.ref a))) L0 H' := by
  obtain ⟨L, q, l⟩ := s
  obtain ⟨C, L', e, L'', q', e'⟩ := q.set_o r i (by rw [q.len]; exact hi)
  have l1 : Lay G (cs ++ (C ++ (L' ++ L0))) H' := hl _ (by
    rw [← List.append_assoc]
    exact l.perm (e.append_right L0))
  have l2 : Lay G (C ++ (L'' ++ L0)) H' := l1.perm (by
    refine (perm_swap _ _ _).trans (List.Perm.append_left C ?_)
    rw [← List.append_assoc]
    exact (e'.symm).append_right L0)
  obtain ⟨G', e3, l3, _⟩ := l2.freezeAll
  exact ⟨G', e3, L'', q'.up e3, l3⟩
theorem Stt.get_o (s : Stt G ρ σ L0 H) {O : Op} {i : Nat} (h : ρ[i]? = some (.o O)) : ∃ a cs, σ[i]? = some (some (.ref a)) ∧ O.p G a cs ∧ (∀ c ∈ cs, H c.1 = some c.2) ∧
    (∀ (O' : Op) (cs' : List Cell) (H' : Hp), O'.p G a cs' → (∀ M, Lay G (cs ++ M) H → Lay G (cs' ++ M) H') → Stt G (ρ.set i (.o O')) σ L0 H') ∧
    (∀ (R : Rp), (∀ G', Same G G' → (∀ c ∈ cs, G' c.1 = some c.2) → R.p G' (.ref a)) → ∃ G', Same G G' ∧ Stt G' (ρ.set i (.p R)) σ L0 H) := by
  obtain ⟨L, q, l⟩ := s
  obtain ⟨a, cs, M, h1, h2, h3, h4, h5⟩ := q.get_o h
  have l1 : Lay G (cs ++ (M ++ L0)) H := by
    rw [← List.append_assoc]
    exact l.perm (h3.append_right L0)
  refine ⟨a, cs, h1, h2, fun c hc => (l1.on c (List.mem_append_left _ hc)).1, fun O' cs' H' q' hl => ?_, fun R hR => ?_⟩
  · obtain ⟨L', s', e⟩ := h4 O' cs' q'
    refine ⟨L', s', (hl _ l1).perm ?_⟩
    rw [← List.append_assoc]
    exact (e.symm).append_right L0
  · obtain ⟨G', e', l'', k⟩ := l1.freezeAll
    exact ⟨G', e', M, h5 G' R e' (hR G' e' k), l''⟩
end
end Z

set_option Elab.async false
set_option linter.all false
set_option maxRecDepth 100000
set_option maxHeartbeats 2000000
/-! Zb: data, what an expression, a test, a statement comes to. -/
namespace Z
open PySem PySem.Spec PyProof.Rows L2
section
variable {K : PySem.W.Frag}
theorem sqT_up {H H' : Hp} {a : Addr} {xs : List V} (e : Same H H') (h : SqT K H a xs) : SqT K H' a xs := by
  rcases h with (h | ⟨o, h⟩) | h
  · exact .inl (.inl (e _ _ h))
  · exact .inl (.inr ⟨o, e _ _ h⟩)
  · exact .inr h
mutual
/-- data at a value: every list and tuple stands in H -/
inductive Dq (H : Hp) : V → PyData → Prop
  | non : Dq H .non .none
  | bl (b : Bool) : Dq H (.bl b) (.bool b)
  | int (i : Int) : Dq H (.int i) (.int i)
  | str (x : Str) : Dq H (.str x) (.str x)
  | lst {a : Addr} {xs : List V} {ds : List PyData} : H a = some (.lst xs) → DqAll H xs ds → Dq H (.ref a) (.list ds)
  | tup {a : Addr} {xs : List V} {ds : List PyData} : H a = some (.tup xs) → DqAll H xs ds → Dq H (.ref a) (.tuple ds)
inductive DqAll (H : Hp) : List V → List PyData → Prop
  | nil : DqAll H [] []
  | cons {v : V} {vs : List V} {d : PyData} {ds : List PyData} : Dq H v d → DqAll H vs ds → DqAll H (v :: vs) (d :: ds)
end
mutual
theorem dp_up {H H' : Hp} (e : Same H H') : ∀ {v : V} {d : PyData}, Dq H v d → Dq H' v d
  | _, _, .non => .non
  | _, _, .bl b => .bl b
  | _, _, .int i => .int i
  | _, _, .str x => .str x
  | _, _, .lst h a => .lst (e _ _ h) (dpAll_up e a)
  | _, _, .tup h a => .tup (e _ _ h) (dpAll_up e a)
theorem dpAll_up {H H' : Hp} (e : Same H H') : ∀ {vs : List V} {ds : List PyData}, DqAll H vs ds → DqAll H' vs ds
  | _, _, .nil => .nil
  | _, _, .cons h t => .cons (dp_up e h) (dpAll_up e t)
end
mutual
theorem dq_dp {H : Hp} : ∀ {v : V} {d : PyData}, Dq H v d → L2.Dp K H v d
  | _, _, .non => .non
  | _, _, .bl b => .bl b
  | _, _, .int i => .int i
  | _, _, .str x => .str x
  | _, _, .lst h a => .lst (.inl (.inl h)) (dqAll_dp a)
  | _, _, .tup h a => .tup (.inl (.inl h)) (dqAll_dp a)
theorem dqAll_dp {H : Hp} : ∀ {vs : List V} {ds : List PyData}, DqAll H vs ds → L2.DpAll K H vs ds
  | _, _, .nil => .nil
  | _, _, .cons h t => .cons (dq_dp h) (dqAll_dp t)
end
theorem dpAll_len {H : Hp} : ∀ {vs : List V} {ds : List PyData}, DqAll H vs ds → vs.length = ds.length
  | _, _, .nil => rfl
  | _, _, .cons _ t => by simp [dpAll_len t]
theorem dpAll_get {H : Hp} : ∀ {vs : List V} {ds : List PyData} {i : Nat} {d : PyData}, DqAll H vs ds → ds[i]? = some d → ∃ v, vs[i]? = some v ∧ Dq H v d
  | _, _, _, _, .nil, h => by simp at h
  | _, _, 0, _, .cons q _, h => by simp at h; subst h; exact ⟨_, rfl, q⟩
  | _, _, i + 1, _, .cons _ t, h => by simpa using dpAll_get (i := i) t (by simpa using h)
theorem dpAll_get' {H : Hp} : ∀ {vs : List V} {ds : List PyData} {i : Nat} {v : V}, DqAll H vs ds → vs[i]? = some v → ∃ d, ds[i]? = some d ∧ Dq H v d
  | _, _, _, _, .nil, h => by simp at h
  | _, _, 0, _, .cons q _, h => by simp at h; subst h; exact ⟨_, rfl, q⟩
  | _, _, i + 1, _, .cons _ t, h => by simpa using dpAll_get' (i := i) t (by simpa using h)
theorem dpAll_app {H : Hp} : ∀ {vs ws : List V} {ds es : List PyData}, DqAll H vs ds → DqAll H ws es → DqAll H (vs ++ ws) (ds ++ es)
  | _, _, _, _, .nil, s => s
  | _, _, _, _, .cons q t, s => .cons q (dpAll_app t s)
theorem dpAll_take {H : Hp} : ∀ {vs : List V} {ds : List PyData} (n : Nat), DqAll H vs ds → DqAll H (vs.take n) (ds.take n)
  | _, _, 0, _ => .nil
  | _, _, _ + 1, .nil => .nil
  | _, _, n + 1, .cons q t => .cons q (dpAll_take n t)
theorem dpAll_drop {H : Hp} : ∀ {vs : List V} {ds : List PyData} (n : Nat), DqAll H vs ds → DqAll H (vs.drop n) (ds.drop n)
  | _, _, 0, s => s
  | _, _, _ + 1, .nil => .nil
  | _, _, n + 1, .cons _ t => dpAll_drop n t
theorem dpAll_set {H : Hp} {v : V} {d : PyData} (r : Dq H v d) : ∀ {vs : List V} {ds : List PyData} (n : Nat), DqAll H vs ds → DqAll H (vs.set n v) (ds.set n d)
  | _, _, _, .nil => .nil
  | _, _, 0, .cons _ t => .cons r t
  | _, _, n + 1, .cons q t => .cons q (dpAll_set r n t)
theorem dpAll_rep {H : Hp} : ∀ {vs : List V} {ds : List PyData} (n : Nat), DqAll H vs ds → DqAll H (List.replicate n vs).flatten (List.replicate n ds).flatten
  | _, _, 0, _ => .nil
  | _, _, n + 1, s => by
    rw [List.replicate_succ, List.replicate_succ, List.flatten_cons, List.flatten_cons]
    exact dpAll_app s (dpAll_rep n s)
theorem dpAll_ints {H : Hp} : ∀ {vs : List V} {ns : List Int}, DqAll H vs (ns.map PyData.int) → vs = ns.map V.int
  | [], [], .nil => rfl
  | _ :: _, n :: ns, .cons q t => by
    cases q
    rw [dpAll_ints t]; rfl
theorem dpAll_bools {H : Hp} : ∀ {vs : List V} {ns : List Bool}, DqAll H vs (ns.map PyData.bool) → vs = ns.map V.bl
  | [], [], .nil => rfl
  | _ :: _, n :: ns, .cons q t => by
    cases q
    rw [dpAll_bools t]; rfl
theorem dpAll_of_ints {H : Hp} : ∀ (ns : List Int), DqAll H (ns.map V.int) (ns.map PyData.int)
  | [] => .nil
  | n :: ns => .cons (.int n) (dpAll_of_ints ns)
end
/-- data that stays -/
def dat (d : PyData) : Rp := ⟨fun H v => Dq H v d, fun e h => dp_up e h⟩
/-- a list, wherever it stands, of data that stays -/
def bL (ds : List PyData) : Bw := ⟨fun G L v => ∃ a vs, v = .ref a ∧ (G a = some (.lst vs) ∨ (a, HO.lst vs) ∈ L) ∧ DqAll G vs ds, fun e l h => by
  obtain ⟨a, vs, r, q, d⟩ := h
  exact ⟨a, vs, r, q.elim (fun z => .inl (e _ _ z)) (fun z => .inr (l _ z)), dpAll_up e d⟩⟩
/-- an owned list of data that stays -/
def oL (ds : List PyData) : Op := ⟨fun G a cs => ∃ vs, cs = [(a, HO.lst vs)] ∧ DqAll G vs ds, fun e h => by
  obtain ⟨vs, r, d⟩ := h
  exact ⟨vs, r, dpAll_up e d⟩⟩
abbrev dI (i : Int) : Rp := dat (.int i)
abbrev dB (b : Bool) : Rp := dat (.bool b)

/-! ### expressions -/
/-- the value has B, now and as long as the slots stand -/
structure Ev (te : TE) (ρ : List Sl) (B : Bw) : Prop where
  run : ∀ {G : Hp} {σ : L2.St} {L0 : List Cell} {H : Hp} (Q : VK), Stt G ρ σ L0 H →
    (∀ G' H' v, Same G G' → Stt G' ρ σ L0 H' → (∀ G'' L'' H'', Same G' G'' → Slots G'' L0 σ ρ L'' → Lay G'' (L'' ++ L0) H'' → B.p G'' (L'' ++ L0) v) → Q v H') → te σ H Q
/-- a new list -/
structure EvN (te : TE) (ρ : List Sl) (ds : List PyData) : Prop where
  run : ∀ {G : Hp} {σ : L2.St} {L0 : List Cell} {H : Hp} (Q : VK), Stt G ρ σ L0 H →
    (∀ G' H' p vs, Same G G' → Stt G' ρ σ L0 H' → H' p = none → DqAll G' vs ds → Q (.ref p) (upd H' p (.lst vs))) → te σ H Q
structure EvT (tt : TT) (ρ : List Sl) (b : Bool) : Prop where
  run : ∀ {G : Hp} {σ : L2.St} {L0 : List Cell} {H : Hp} (Q : Bool → Hp → Prop), Stt G ρ σ L0 H →
    (∀ G' H', Same G G' → Stt G' ρ σ L0 H' → Q b H') → tt σ H Q
inductive AllB (G : Hp) (L : List Cell) : List V → List Bw → Prop
  | nil : AllB G L [] []
  | cons {v vs} {B : Bw} {Bs} : B.p G L v → AllB G L vs Bs → AllB G L (v :: vs) (B :: Bs)
structure EvA (ta : TA) (ρ : List Sl) (Bs : List Bw) : Prop where
  run : ∀ {G : Hp} {σ : L2.St} {L0 : List Cell} {H : Hp} (Q : List V → Hp → Prop), Stt G ρ σ L0 H →
    (∀ G' H' vs, Same G G' → Stt G' ρ σ L0 H' → (∀ G'' L'' H'', Same G' G'' → Slots G'' L0 σ ρ L'' → Lay G'' (L'' ++ L0) H'' → AllB G'' (L'' ++ L0) vs Bs) → Q vs H') → ta σ H Q
section
variable {K : PySem.W.Frag} {ρ : List Sl} {te ta tb : TE} {R : Rp} {B Ba Bb : Bw} {i j : Int}
/-- with pure results the wish is simple -/
theorem Ev.pure (h : ∀ {G : Hp} {σ : L2.St} {L0 : List Cell} {H : Hp} (Q : VK), Stt G ρ σ L0 H → (∀ G' H' v, Same G G' → Stt G' ρ σ L0 H' → R.p G' v → Q v H') → te σ H Q) : Ev te ρ (pu R) :=
  ⟨fun Q s q => h Q s fun G' H' v e s' r => q G' H' v e s' fun G'' L'' H'' e' _ _ => R.up e' r⟩
theorem Ev.at (h : Ev te ρ B) {G : Hp} {σ : L2.St} {L0 : List Cell} {H : Hp} {Q : VK} (s : Stt G ρ σ L0 H) (q : ∀ G' H' v L, Same G G' → Stt G' ρ σ L0 H' → Slots G' L0 σ ρ L → Lay G' (L ++ L0) H' → B.p G' (L ++ L0) v → Q v H') : te σ H Q :=
  h.run Q s fun G' H' v e s' r => by
    obtain ⟨L, a, b⟩ := id s'
    exact q G' H' v L e s' a b (r G' L H' (Same.refl _) a b)
theorem Ev.atp (h : Ev te ρ (pu R)) {G : Hp} {σ : L2.St} {L0 : List Cell} {H : Hp} {Q : VK} (s : Stt G ρ σ L0 H) (q : ∀ G' H' v, Same G G' → Stt G' ρ σ L0 H' → R.p G' v → Q v H') : te σ H Q :=
  h.at s fun G' H' v _ e s' _ _ r => q G' H' v e s' r
theorem Ev.imp {B' : Bw} (h : Ev te ρ B) (k : ∀ G L v, B.p G L v → B'.p G L v) : Ev te ρ B' := ⟨fun Q s q => h.run Q s fun G' H' v e s' r => q G' H' v e s' fun G'' L'' H'' e' a b => k _ _ _ (r G'' L'' H'' e' a b)⟩
theorem Ev.is {B' : Bw} (h : Ev te ρ B) (k : B = B') : Ev te ρ B' := by rw [← k]; exact h
theorem ev_var {i : Nat} (h : ρ[i]? = some (.p R)) : Ev (tVar i) ρ (pu R) := by
  refine Ev.pure fun Q s q => ?_
  obtain ⟨v, e, r⟩ := s.get_p h
  exact ⟨v, e, q _ _ v (Same.refl _) s r⟩
theorem ev_b {i : Nat} (h : ρ[i]? = some (.b B)) : Ev (tVar i) ρ B := by
  refine ⟨fun Q s q => ?_⟩
  obtain ⟨v, e, r⟩ := s.get_b h
  exact ⟨v, e, q _ _ v (Same.refl _) s fun G'' L'' H'' e' a b => B.up e' (fun c hc => List.mem_append_right _ hc) r⟩
/-- an owned list, read -/
theorem ev_o {ds : List PyData} {i : Nat} (h : ρ[i]? = some (.o (oL ds))) : Ev (tVar i) ρ (bL ds) := by
  refine ⟨fun Q s q => ?_⟩
  obtain ⟨a, cs, e, _⟩ := s.get_o h
  refine ⟨_, e, q _ _ _ (Same.refl _) s fun G'' L'' H'' e' sl la => ?_⟩
  obtain ⟨a', cs', M, e1, ⟨vs, e2, d⟩, pm, _⟩ := sl.get_o h
  rw [e] at e1
  injection e1 with e1; injection e1 with e1; injection e1 with e1
  subst e1 e2
  exact ⟨a, vs, rfl, .inr (List.mem_append_left _ (pm.mem_iff.mpr (List.mem_append_left _ (List.mem_cons_self ..)))), d⟩
theorem bl_of_dat {ds : List PyData} : ∀ G L v, (pu (dat (.list ds))).p G L v → (bL ds).p G L v := fun G L v h => by
  have h : Dq G v (.list ds) := h
  cases h with
  | lst a b => exact ⟨_, _, rfl, .inl a, b⟩
theorem Ev.bl {ds : List PyData} (h : Ev te ρ (pu (dat (.list ds)))) : Ev te ρ (bL ds) := h.imp bl_of_dat
theorem ev_int : Ev (tC (.int i)) ρ (pu (dI i)) := Ev.pure fun Q s q => q _ _ _ (Same.refl _) s (Dq.int i)
theorem ev_bl {b : Bool} : Ev (tC (.bl b)) ρ (pu (dB b)) := Ev.pure fun Q s q => q _ _ _ (Same.refl _) s (Dq.bl b)
theorem ev_non : Ev (tC .non) ρ (pu (dat .none)) := Ev.pure fun Q s q => q _ _ _ (Same.refl _) s Dq.non
theorem ev_str {x : Str} : Ev (tC (.str x)) ρ (pu (dat (.str x))) := Ev.pure fun Q s q => q _ _ _ (Same.refl _) s (Dq.str x)
theorem EvN.ev {ds : List PyData} (h : EvN te ρ ds) : Ev te ρ (pu (dat (.list ds))) := Ev.pure fun Q s q => h.run Q s fun G' H' p vs e s' hp d => by
  have g := s'.grow (o := .lst vs) hp
  exact q _ _ _ (e.trans g.1) g.2 (Dq.lst upd_same (dpAll_up g.1 d))
theorem EvN.is {ds ds' : List PyData} (h : EvN te ρ ds) (e : ds = ds') : EvN te ρ ds' := by rw [← e]; exact h
/-- an operation on two values, that makes nothing -/
def Op2 (r : R2) (Ba Bb : Bw) (R : Rp) : Prop := ∀ (G H : Hp) (L : List Cell) (x y : V) (Q : VK), Lay G L H → Ba.p G L x → Bb.p G L y → (∀ v, R.p G v → Q v H) → r x y H Q
theorem ev_op {r : R2} (ha : Ev ta ρ Ba) (hb : Ev tb ρ Bb) (h : Op2 r Ba Bb R) : Ev (tOp r ta tb) ρ (pu R) := Ev.pure fun Q s q =>
  ha.run _ s fun G1 H1 x e1 s1 rx => hb.run _ s1 fun G2 H2 y e2 s2 ry => by
    obtain ⟨L, a, b⟩ := id s2
    exact h G2 H2 _ x y Q b (rx G2 L H2 e2 a b) (ry G2 L H2 (Same.refl _) a b) fun v rv => q G2 H2 v (e1.trans e2) s2 rv
/-- .. that makes a new list -/
def Op2N (r : R2) (Ba Bb : Bw) (ds : List PyData) : Prop := ∀ (G H : Hp) (L : List Cell) (x y : V) (Q : VK), Lay G L H → Ba.p G L x → Bb.p G L y → (∀ p vs, H p = none → DqAll G vs ds → Q (.ref p) (upd H p (.lst vs))) → r x y H Q
theorem ev_opN {r : R2} {ds : List PyData} (ha : Ev ta ρ Ba) (hb : Ev tb ρ Bb) (h : Op2N r Ba Bb ds) : EvN (tOp r ta tb) ρ ds := ⟨fun Q s q =>
  ha.run _ s fun G1 H1 x e1 s1 rx => hb.run _ s1 fun G2 H2 y e2 s2 ry => by
    obtain ⟨L, a, b⟩ := id s2
    exact h G2 H2 _ x y Q b (rx G2 L H2 e2 a b) (ry G2 L H2 (Same.refl _) a b) fun p vs hp d => q G2 H2 p vs (e1.trans e2) s2 hp d⟩
theorem o_int0 {g : Int → Int → Int} : Op2 (rI0 fun i j => .int (g i j)) (pu (dI i)) (pu (dI j)) (dI (g i j)) := fun G H L x y Q _ hx hy q => by
  cases hx; cases hy
  exact ⟨i, j, rfl, rfl, q _ (Dq.int _)⟩
theorem o_bool0 {g : Int → Int → Bool} : Op2 (rI0 fun i j => .bl (g i j)) (pu (dI i)) (pu (dI j)) (dB (g i j)) := fun G H L x y Q _ hx hy q => by
  cases hx; cases hy
  exact ⟨i, j, rfl, rfl, q _ (Dq.bl _)⟩
theorem o_intC {C : Int → Int → Prop} {g : Int → Int → Int} (hc : C i j) : Op2 (rI C fun i j => .int (g i j)) (pu (dI i)) (pu (dI j)) (dI (g i j)) := fun G H L x y Q _ hx hy q => by
  cases hx; cases hy
  exact ⟨i, j, rfl, rfl, hc, q _ (Dq.int _)⟩
theorem o_eqI : Op2 rEq (pu (dI i)) (pu (dI j)) (dB (decide (i = j))) := fun G H L x y Q _ hx hy q => by
  cases hx; cases hy
  refine ⟨rfl, q _ ?_⟩
  rw [show decide (V.int i = V.int j) = decide (i = j) by simp]
  exact Dq.bl _
theorem o_neI : Op2 rNe (pu (dI i)) (pu (dI j)) (dB (!decide (i = j))) := fun G H L x y Q _ hx hy q => by
  cases hx; cases hy
  refine ⟨rfl, q _ ?_⟩
  rw [show decide (V.int i = V.int j) = decide (i = j) by simp]
  exact Dq.bl _
theorem o_eqD {d e : PyData} (hd : SeqAt.shaped d = true) (he : SeqAt.shaped e = true) : Op2 (rEqD K) (pu (dat d)) (pu (dat e)) (dB (PyData.eqv d e)) := fun G H L x y Q l hx hy q =>
  ⟨d, e, dq_dp (dp_up l.same hx), dq_dp (dp_up l.same hy), hd, he, q _ (Dq.bl _)⟩
theorem o_neD {d e : PyData} (hd : SeqAt.shaped d = true) (he : SeqAt.shaped e = true) : Op2 (rNeD K) (pu (dat d)) (pu (dat e)) (dB (!PyData.eqv d e)) := fun G H L x y Q l hx hy q =>
  ⟨d, e, dq_dp (dp_up l.same hx), dq_dp (dp_up l.same hy), hd, he, q _ (Dq.bl _)⟩
theorem bl_sq {G H : Hp} {L : List Cell} {ds : List PyData} {v : V} (l : Lay G L H) (h : (bL ds).p G L v) : ∃ a vs, v = .ref a ∧ H a = some (.lst vs) ∧ DqAll G vs ds := by
  obtain ⟨a, vs, r, q, d⟩ := h
  exact ⟨a, vs, r, q.elim (fun z => l.same _ _ z) (fun z => (l.on _ z).1), d⟩
theorem atI_all {G : Hp} {vs : List V} {ds : List PyData} {d : PyData} (h : DqAll G vs ds) (e : atI ds i = some d) : ∃ v, atI vs i = some v ∧ Dq G v d := by
  unfold atI at e ⊢
  rw [dpAll_len h]
  cases q : ixN ds.length i with
  | none => rw [q] at e; cases e
  | some k =>
    rw [q] at e
    exact dpAll_get h e
theorem o_ixL {ds : List PyData} {d : PyData} (e : atI ds i = some d) : Op2 (rIxL K) (bL ds) (pu (dI i)) (dat d) := fun G H L x y Q l hx hy q => by
  obtain ⟨a, vs, r, h, dd⟩ := bl_sq l hx
  cases hy
  obtain ⟨v, hv, dv⟩ := atI_all dd e
  exact ⟨a, vs, i, v, r, rfl, .inl (.inl h), hv, q v dv⟩
theorem o_ixT {ds : List PyData} {d : PyData} (e : atI ds i = some d) : Op2 (rIxT K) (pu (dat (.tuple ds))) (pu (dI i)) (dat d) := fun G H L x y Q l hx hy q => by
  have hx : Dq G x (.tuple ds) := hx
  cases hx with
  | tup h dd =>
    cases hy
    obtain ⟨v, hv, dv⟩ := atI_all dd e
    exact ⟨_, _, i, v, rfl, rfl, .inl (.inl (l.same _ _ h)), hv, q v dv⟩
/-- a one-place operation -/
theorem ev_neg (ha : Ev ta ρ (pu (dI i))) : Ev (tUn (rU fun i => .int (-i)) ta) ρ (pu (dI (-i))) := Ev.pure fun Q s q =>
  ha.atp s fun G' H' v e s' r => by
    cases r
    exact ⟨i, rfl, q _ _ _ e s' (Dq.int _)⟩
/-! tests -/
theorem et_test {b : Bool} (h : Ev te ρ (pu (dB b))) : EvT (tTest te) ρ b := ⟨fun Q s q => h.atp s fun G' H' v e s' r => by
  cases r
  exact ⟨b, rfl, q _ _ e s'⟩⟩
theorem et_B {b : Bool} (h : Ev te ρ (pu (dB b))) : EvT (tB te) ρ b := ⟨fun Q s q => h.atp s fun G' H' v e s' r => by
  cases r
  exact ⟨b, rfl, q _ _ e s'⟩⟩
theorem et_and {t u : TT} {a b : Bool} (h1 : EvT t ρ a) (h2 : a = true → EvT u ρ b) : EvT (tAnd t u) ρ (a && b) := ⟨fun Q s q => h1.run _ s fun G1 H1 e1 s1 => by
  cases a with
  | true =>
    show u _ _ Q
    exact (h2 rfl).run Q s1 fun G2 H2 e2 s2 => q G2 H2 (e1.trans e2) s2
  | false => exact q G1 H1 e1 s1⟩
theorem et_or {t u : TT} {a b : Bool} (h1 : EvT t ρ a) (h2 : a = false → EvT u ρ b) : EvT (tOr t u) ρ (a || b) := ⟨fun Q s q => h1.run _ s fun G1 H1 e1 s1 => by
  cases a with
  | false =>
    show u _ _ Q
    exact (h2 rfl).run Q s1 fun G2 H2 e2 s2 => q G2 H2 (e1.trans e2) s2
  | true => exact q G1 H1 e1 s1⟩
theorem et_not {t : TT} {a : Bool} (h1 : EvT t ρ a) : EvT (tNot t) ρ (!a) := ⟨fun Q s q => h1.run _ s fun G1 H1 e1 s1 => q G1 H1 e1 s1⟩
theorem EvT.is {t : TT} {a b : Bool} (h : EvT t ρ a) (e : a = b) : EvT t ρ b := by rw [← e]; exact h
/-- a < b < c -/
theorem ev_chain {r r' : R2} {tc : TE} {Bc : Bw} {a b : Bool} (ha : Ev ta ρ Ba) (hb : Ev tb ρ Bb) (hc : a = true → Ev tc ρ Bc) (h : Op2 r Ba Bb (dB a)) (h' : a = true → Op2 r' Bb Bc (dB b)) : Ev (tChain r r' ta tb tc) ρ (pu (dB (a && b))) := Ev.pure fun Q s q =>
  ha.run _ s fun G1 H1 x e1 s1 rx => hb.run _ s1 fun G2 H2 y e2 s2 ry => by
    obtain ⟨L, sa, sb⟩ := id s2
    refine h G2 H2 _ x y _ sb (rx G2 L H2 e2 sa sb) (ry G2 L H2 (Same.refl _) sa sb) fun z rz => ?_
    cases rz
    refine ⟨a, rfl, ?_⟩
    cases a with
    | false => exact q G2 H2 _ (e1.trans e2) s2 (Dq.bl _)
    | true =>
      show tc _ _ _
      refine (hc rfl).run _ s2 fun G3 H3 w e3 s3 rw => ?_
      obtain ⟨L3, sa3, sb3⟩ := id s3
      exact h' rfl G3 H3 _ y w Q sb3 (ry G3 L3 H3 e3 sa3 sb3) (rw G3 L3 H3 (Same.refl _) sa3 sb3) fun v rv => q G3 H3 v ((e1.trans e2).trans e3) s3 (by cases rv; exact Dq.bl _)
theorem ev_andV {a b : Bool} (h1 : Ev ta ρ (pu (dB a))) (h2 : a = true → Ev tb ρ (pu (dB b))) : Ev (tAndV ta tb) ρ (pu (dB (a && b))) := Ev.pure fun Q s q => h1.atp s fun G1 H1 v e1 s1 r => by
  cases r
  refine ⟨a, rfl, ?_⟩
  cases a with
  | true => exact (h2 rfl).atp s1 fun G2 H2 v e2 s2 r2 => q G2 H2 v (e1.trans e2) s2 r2
  | false => exact q G1 H1 _ e1 s1 (Dq.bl _)
theorem ev_orV {a b : Bool} (h1 : Ev ta ρ (pu (dB a))) (h2 : a = false → Ev tb ρ (pu (dB b))) : Ev (tOrV ta tb) ρ (pu (dB (a || b))) := Ev.pure fun Q s q => h1.atp s fun G1 H1 v e1 s1 r => by
  cases r
  refine ⟨a, rfl, ?_⟩
  cases a with
  | false => exact (h2 rfl).atp s1 fun G2 H2 v e2 s2 r2 => q G2 H2 v (e1.trans e2) s2 r2
  | true => exact q G1 H1 _ e1 s1 (Dq.bl _)
theorem ev_notV {a : Bool} (h1 : Ev ta ρ (pu (dB a))) : Ev (tNotV ta) ρ (pu (dB (!a))) := Ev.pure fun Q s q => h1.atp s fun G1 H1 v e1 s1 r => by
  cases r
  exact ⟨a, rfl, q G1 H1 _ e1 s1 (Dq.bl _)⟩
theorem ev_if {t : TT} {b : Bool} (h : EvT t ρ b) (h1 : b = true → Ev ta ρ B) (h2 : b = false → Ev tb ρ B) : Ev (tIf t ta tb) ρ B := ⟨fun Q s q => h.run _ s fun G1 H1 e1 s1 => by
  cases b with
  | true => exact (h1 rfl).run Q s1 fun G2 H2 v e2 s2 r2 => q G2 H2 v (e1.trans e2) s2 r2
  | false => exact (h2 rfl).run Q s1 fun G2 H2 v e2 s2 r2 => q G2 H2 v (e1.trans e2) s2 r2⟩
/-! arguments, displays -/
theorem ea_nil : EvA tNil ρ [] := ⟨fun Q s q => q _ _ _ (Same.refl _) s fun _ _ _ _ _ _ => .nil⟩
theorem ea_cons {tr : TA} {Bs : List Bw} (h : Ev te ρ B) (hr : EvA tr ρ Bs) : EvA (tCons te tr) ρ (B :: Bs) := ⟨fun Q s q =>
  h.run _ s fun G1 H1 v e1 s1 r1 => hr.run _ s1 fun G2 H2 vs e2 s2 r2 => q G2 H2 (v :: vs) (e1.trans e2) s2 fun G3 L3 H3 e3 a b => .cons (r1 G3 L3 H3 (e2.trans e3) a b) (r2 G3 L3 H3 e3 a b)⟩
theorem EvA.at {tr : TA} {Bs : List Bw} (h : EvA tr ρ Bs) {G : Hp} {σ : L2.St} {L0 : List Cell} {H : Hp} {Q : List V → Hp → Prop} (s : Stt G ρ σ L0 H)
    (q : ∀ G' H' vs L, Same G G' → Slots G' L0 σ ρ L → Lay G' (L ++ L0) H' → AllB G' (L ++ L0) vs Bs → Q vs H') : tr σ H Q :=
  h.run _ s fun G' H' vs e s' r => by
    obtain ⟨L, a, b⟩ := id s'
    exact q G' H' vs L e a b (r G' L H' (Same.refl _) a b)
theorem allB_dat {G : Hp} {L : List Cell} : ∀ {vs : List V} {ds : List PyData}, AllB G L vs (ds.map fun d => pu (dat d)) → DqAll G vs ds
  | _, [], .nil => .nil
  | _, d :: ds, .cons h t => .cons h (allB_dat t)
theorem ev_tup {ta : TA} {ds : List PyData} (h : EvA ta ρ (ds.map fun d => pu (dat d))) (hl : ds.length ≤ 1000) : Ev (tTup ta) ρ (pu (dat (.tuple ds))) := Ev.pure fun Q s q =>
  h.at s fun G1 H1 vs L e1 a b r => by
    have d := allB_dat r
    refine ⟨by rw [dpAll_len d]; exact Nat.le_of_lt (small1000 hl), fun p hp => ?_⟩
    have g := Stt.grow ⟨L, a, b⟩ (o := .tup vs) hp
    exact q _ _ _ (e1.trans g.1) g.2 (Dq.tup upd_same (dpAll_up g.1 d))
theorem en_lst {ta : TA} {ds : List PyData} (h : EvA ta ρ (ds.map fun d => pu (dat d))) (hl : ds.length ≤ 1000) : EvN (tLst ta) ρ ds := ⟨fun Q s q =>
  h.at s fun G1 H1 vs L e1 a b r => by
    have d := allB_dat r
    exact ⟨by rw [dpAll_len d]; exact Nat.le_of_lt (small1000 hl), fun p hp => q G1 H1 p vs e1 ⟨L, a, b⟩ hp d⟩⟩
/-- a builtin's call -/
def Cl (r : List V → Hp → VK → Prop) (Bs : List Bw) (R : Rp) : Prop := ∀ (G H : Hp) (L : List Cell) (vs : List V) (Q : VK), Lay G L H → AllB G L vs Bs → (∀ v, R.p G v → Q v H) → r vs H Q
theorem ev_cb {r : List V → Hp → VK → Prop} {ta : TA} {Bs : List Bw} (h : EvA ta ρ Bs) (hr : Cl r Bs R) : Ev (tCB r ta) ρ (pu R) := Ev.pure fun Q s q =>
  h.at s fun G1 H1 vs L e1 a b rv => hr G1 H1 _ vs Q b rv fun v r => q G1 H1 v e1 ⟨L, a, b⟩ r
def ClN (r : List V → Hp → VK → Prop) (Bs : List Bw) (ds : List PyData) : Prop := ∀ (G H : Hp) (L : List Cell) (vs : List V) (Q : VK), Lay G L H → AllB G L vs Bs → (∀ p ws, H p = none → DqAll G ws ds → Q (.ref p) (upd H p (.lst ws))) → r vs H Q
theorem en_cb {r : List V → Hp → VK → Prop} {ta : TA} {Bs : List Bw} {ds : List PyData} (h : EvA ta ρ Bs) (hr : ClN r Bs ds) : EvN (tCB r ta) ρ ds := ⟨fun Q s q =>
  h.at s fun G1 H1 vs L e1 a b rv => hr G1 H1 _ vs Q b rv fun p ws hp d => q G1 H1 p ws e1 ⟨L, a, b⟩ hp d⟩
end
end Z

set_option Elab.async false
set_option linter.all false
set_option maxRecDepth 100000
set_option maxHeartbeats 2000000
/-! Zc: statements, targets, loops, comprehensions. -/
namespace Z
open PySem PySem.Spec PyProof.Rows L2
/-! ### what a statement ends in -/
inductive Out where
  | nx (ρ : List Sl) | rt (R : Rp) | ro (O : Op) | bk (ρ : List Sl) | ct (ρ : List Sl) | go (ρ : List Sl) | xc (ρ : List Sl) (C : Addr) (n : Int)
def Nx (N : L2.St → Hp → Prop) (G : Hp) (L0 : List Cell) (ρ : List Sl) : Prop := ∀ G' σ' H', Same G G' → Stt G' ρ σ' L0 H' → N σ' H'
/-- an error's own dict -/
def atF (n : Int) : HO := .xd [(("at" : Str), V.int n)]
def Post (W : WX) (D : Ends) (G : Hp) (L0 : List Cell) : Out → Prop
  | .nx ρ => Nx D.nx G L0 ρ
  | .bk ρ => Nx D.bk G L0 ρ
  | .ct ρ => Nx D.ct G L0 ρ
  | .go ρ => Nx D.nx G L0 ρ ∧ Nx D.ct G L0 ρ
  | .rt R => ∀ G' ρ' σ' H' v, Same G G' → Stt G' ρ' σ' L0 H' → R.p G' v → D.rt v H'
  | .ro O => ∀ G' H' a cs, Same G G' → Lay G' (cs ++ L0) H' → O.p G' a cs → D.rt (.ref a) H'
  | .xc ρ C n => ∀ G' σ' H' d, Same G G' → Stt G' ρ σ' L0 H' → H' d = none → W (.ref C) (some d) σ' (upd H' d (atF n))
theorem Post.mono {W : WX} {D : Ends} {G G1 : Hp} {L0 : List Cell} {o : Out} (e : Same G G1) (h : Post W D G L0 o) : Post W D G1 L0 o := by
  cases o with
  | nx ρ => exact fun G' σ' H' e' s => h G' σ' H' (e.trans e') s
  | bk ρ => exact fun G' σ' H' e' s => h G' σ' H' (e.trans e') s
  | ct ρ => exact fun G' σ' H' e' s => h G' σ' H' (e.trans e') s
  | go ρ => exact ⟨fun G' σ' H' e' s => h.1 G' σ' H' (e.trans e') s, fun G' σ' H' e' s => h.2 G' σ' H' (e.trans e') s⟩
  | rt R => exact fun G' ρ' σ' H' v e' s r => h G' ρ' σ' H' v (e.trans e') s r
  | ro O => exact fun G' H' a cs e' l r => h G' H' a cs (e.trans e') l r
  | xc ρ C n => exact fun G' σ' H' d e' s r => h G' σ' H' d (e.trans e') s r
structure Ex (W : WX) (ts : TS) (ρ : List Sl) (o : Out) : Prop where
  run : ∀ {G : Hp} {σ : L2.St} {L0 : List Cell} {H : Hp} (D : Ends), Stt G ρ σ L0 H → Post W D G L0 o → ts D σ H
/-- storing at a target: what slots it touches, T -/
structure EvG (g : TG) (T : List Nat) (ρ : List Sl) (R : Rp) (ρ' : List Sl) : Prop where
  run : ∀ {G : Hp} {σ : L2.St} {L0 : List Cell} {H : Hp} (v : V) (Q : L2.St → Hp → Prop), Stt G ρ σ L0 H → R.p G v →
    (∀ G' σ' H', Same G G' → Stt G' ρ' σ' L0 H' → (∀ vs, (∀ i ∈ T, i ∈ vs) → wipe σ' vs = wipe σ vs) → Q σ' H') → g v σ H Q
structure EvGs (g : TGs) (T : List Nat) (ρ : List Sl) (ds : List PyData) (ρ' : List Sl) : Prop where
  run : ∀ {G : Hp} {σ : L2.St} {L0 : List Cell} {H : Hp} (vs : List V) (Q : L2.St → Hp → Prop), Stt G ρ σ L0 H → DqAll G vs ds →
    (∀ G' σ' H', Same G G' → Stt G' ρ' σ' L0 H' → (∀ vs, (∀ i ∈ T, i ∈ vs) → wipe σ' vs = wipe σ vs) → Q σ' H') → g vs σ H Q
theorem wipe_get (σ : L2.St) (j : Nat) : ∀ vs : List Nat, (wipe σ vs)[j]? = if j ∈ vs then (σ[j]?).map (fun _ => none) else σ[j]?
  | [] => by simp [wipe]
  | v :: vs => by
    show ((wipe σ vs).set v none)[j]? = _
    rw [List.getElem?_set, wipe_length, wipe_get σ j vs]
    by_cases hv : v = j
    · subst hv
      rw [if_pos rfl, if_pos (List.mem_cons_self ..)]
      by_cases hl : v < σ.length
      · rw [if_pos hl, List.getElem?_eq_getElem hl]; rfl
      · rw [if_neg hl, List.getElem?_eq_none (by omega)]; rfl
    · rw [if_neg hv]
      have e : (j ∈ v :: vs) = (j ∈ vs) := by
        rw [List.mem_cons]
        exact propext ⟨fun z => z.elim (fun q => absurd q.symm hv) id, Or.inr⟩
      by_cases hj : j ∈ vs
      · rw [if_pos hj, if_pos (List.mem_cons_of_mem _ hj)]
      · rw [if_neg hj, if_neg (by rw [e]; exact hj)]
theorem wipe_set {σ : L2.St} {i : Nat} {x : Option V} {vs : List Nat} (h : i ∈ vs) : wipe (σ.set i x) vs = wipe σ vs := by
  apply List.ext_getElem?
  intro j
  rw [wipe_get, wipe_get]
  by_cases hj : i = j
  · subst hj
    rw [if_pos h, if_pos h, List.getElem?_set]
    by_cases hl : i < σ.length
    · rw [if_pos rfl, if_pos hl, List.getElem?_eq_getElem hl]; rfl
    · rw [if_pos rfl, if_neg hl, List.getElem?_eq_none (by omega)]
  · rw [List.getElem?_set_ne hj]
section
variable {K : PySem.W.Frag} {W : WX} {ρ ρ' ρ1 : List Sl} {te ta tb : TE} {t u : TS} {R : Rp} {B : Bw} {o : Out} {i : Nat}
theorem Ex.next : Ex W tNext ρ (.nx ρ) := ⟨fun D s q => q _ _ _ (Same.refl _) s⟩
theorem Ex.break_ : Ex W tBreak ρ (.bk ρ) := ⟨fun D s q => q _ _ _ (Same.refl _) s⟩
theorem Ex.cont : Ex W tCont ρ (.ct ρ) := ⟨fun D s q => q _ _ _ (Same.refl _) s⟩
theorem Ex.go (h : Ex W t ρ (.nx ρ')) : Ex W t ρ (.go ρ') := ⟨fun D s q => h.run D s q.1⟩
theorem Ex.goc (h : Ex W t ρ (.ct ρ')) : Ex W t ρ (.go ρ') := ⟨fun D s q => h.run D s q.2⟩
theorem Ex.is {o' : Out} (h : Ex W t ρ o) (e : o = o') : Ex W t ρ o' := by rw [← e]; exact h
theorem Ex.of {ρ'} (e : ρ' = ρ) (h : Ex W t ρ' o) : Ex W t ρ o := by rw [← e]; exact h
theorem Nx.weak {N : L2.St → Hp → Prop} {G : Hp} {L0 : List Cell} (w : Wk ρ ρ') (h : Nx N G L0 ρ') : Nx N G L0 ρ := fun G' σ' H' e s => by
  obtain ⟨G2, e2, s2⟩ := s.weak w
  exact h G2 σ' H' (e.trans e2) s2
/-- told less ahead -/
theorem Ex.weak (w : Wk ρ ρ') (h : Ex W t ρ' o) : Ex W t ρ o := ⟨fun D s q => by
  obtain ⟨G2, e2, s2⟩ := s.weak w
  exact h.run D s2 (q.mono e2)⟩
theorem Ex.out (w : Wk ρ' ρ1) (h : Ex W t ρ (.nx ρ')) : Ex W t ρ (.nx ρ1) := ⟨fun D s q => h.run D s (Nx.weak w q)⟩
theorem Ex.goout (w : Wk ρ' ρ1) (h : Ex W t ρ (.go ρ')) : Ex W t ρ (.go ρ1) := ⟨fun D s q => h.run D s ⟨Nx.weak w q.1, Nx.weak w q.2⟩⟩
theorem Ex.seq (h : Ex W t ρ (.nx ρ1)) (k : Ex W u ρ1 o) : Ex W (tSeq t u) ρ o := ⟨fun D s q => h.run { D with nx := u D } s fun G' σ' H' e s' => k.run D s' (q.mono e)⟩
/-- an end that is not the next statement -/
def Out.ends : Out → Bool
  | .nx _ => false
  | .go _ => false
  | _ => true
theorem Ex.seqE (h : Ex W t ρ o) (k : o.ends = true) : Ex W (tSeq t u) ρ o := ⟨fun D s q => h.run { D with nx := u D } s (by
  cases o with
  | nx _ => cases k
  | go _ => cases k
  | bk _ => exact q
  | ct _ => exact q
  | rt _ => exact q
  | ro _ => exact q
  | xc _ _ _ => exact q)⟩
theorem Ex.ife {tc : TT} {b : Bool} (hc : EvT tc ρ b) (h1 : b = true → Ex W t ρ o) (h2 : b = false → Ex W u ρ o) : Ex W (tIfS tc t u) ρ o := ⟨fun D s q => hc.run _ s fun G1 H1 e1 s1 => by
  cases b with
  | true => exact (h1 rfl).run D s1 (q.mono e1)
  | false => exact (h2 rfl).run D s1 (q.mono e1)⟩
/-- an if whose two ways go their own ends -/
theorem Ex.ite {v : TS} {tc : TT} {b : Bool} (hc : EvT tc ρ b) (h1 : b = true → Ex W (tSeq t v) ρ o) (h2 : b = false → Ex W (tSeq u v) ρ o) : Ex W (tSeq (tIfS tc t u) v) ρ o := ⟨fun D s q => hc.run _ s fun G1 H1 e1 s1 => by
  cases b with
  | true => exact (h1 rfl).run D s1 (q.mono e1)
  | false => exact (h2 rfl).run D s1 (q.mono e1)⟩
theorem Ex.skip (h : Ex W u ρ o) : Ex W (tSeq tNext u) ρ o := Ex.seq Ex.next h
theorem Ex.set (h : Ev te ρ (pu R)) (i : Nat := i) : Ex W (tAsg te (gName i)) ρ (.nx (ρ.set i (.p R))) := ⟨fun D s q => h.atp s fun G' H' v e s' r => by
  obtain ⟨G2, e2, s2⟩ := s'.set_p r i
  exact q G2 _ H' (e.trans e2) s2⟩
theorem Ex.setN {ds : List PyData} (h : EvN te ρ ds) (hi : i < ρ.length) : Ex W (tAsg te (gName i)) ρ (.nx (ρ.set i (.o (oL ds)))) := ⟨fun D s q => h.run _ s fun G' H' p vs e s' hp d => by
  obtain ⟨G2, e2, s2⟩ := s'.set_o (O := oL ds) (a := p) (cs := [(p, .lst vs)]) (H' := upd H' p (.lst vs)) ⟨vs, rfl, d⟩ i hi (fun M l => l.cell hp)
  exact q G2 _ _ (e.trans e2) s2⟩
/-- an owned list is from now on data that stays -/
theorem Ex.freeze {ds : List PyData} (i : Nat) (hi : ρ[i]? = some (.o (oL ds))) (h : Ex W t (ρ.set i (.p (dat (.list ds)))) o) : Ex W t ρ o := ⟨fun {G σ L0 H} D s q => by
  obtain ⟨a, cs, e, ⟨vs, hcs, d⟩, hh, k1, k2⟩ := s.get_o hi
  subst hcs
  obtain ⟨G2, e2, s2⟩ := k2 (dat (.list ds)) fun G' e' hc => Dq.lst (hc (a, .lst vs) (List.mem_cons_self ..)) (dpAll_up e' d)
  exact h.run D s2 (q.mono e2)⟩
theorem Ex.ret (h : Ev te ρ (pu R)) : Ex W (tRet te) ρ (.rt R) := ⟨fun D s q => h.atp s fun G' H' v e s' r => q G' _ _ H' v e s' r⟩
theorem Ex.retN : Ex W tRetN ρ (.rt (dat .none)) := ⟨fun D s q => q _ _ _ _ _ (Same.refl _) s Dq.non⟩
theorem Ex.drop (h : Ev te ρ B) : Ex W (tDrop te) ρ (.nx ρ) := ⟨fun D s q => h.at s fun G' H' v L e s' _ _ _ => q G' _ H' e s'⟩
theorem Ex.asg {g : TG} {T : List Nat} (h : Ev te ρ (pu R)) (hg : EvG g T ρ R ρ') : Ex W (tAsg te g) ρ (.nx ρ') := ⟨fun D s q => h.atp s fun G' H' v e s' r => hg.run v _ s' r fun G2 σ2 H2 e2 s2 _ => q G2 σ2 H2 (e.trans e2) s2⟩
theorem eg_name : EvG (gName i) [i] ρ R (ρ.set i (.p R)) := ⟨fun v Q s r q => by
  obtain ⟨G2, e2, s2⟩ := s.set_p r i
  exact q G2 _ _ e2 s2 fun vs h => wipe_set (h i (List.mem_cons_self ..))⟩
theorem egs_nil : EvGs gNil [] ρ [] ρ := ⟨fun vs Q s r q => by
  cases r
  exact ⟨rfl, q _ _ _ (Same.refl _) s fun _ _ => rfl⟩⟩
theorem egs_cons {g : TG} {gs : TGs} {T U : List Nat} {d : PyData} {ds : List PyData} (h1 : EvG g T ρ (dat d) ρ1) (h2 : EvGs gs U ρ1 ds ρ') : EvGs (gCons g gs) (T ++ U) ρ (d :: ds) ρ' := ⟨fun vs Q s r q => by
  cases r with
  | cons r1 r2 =>
    exact ⟨_, _, rfl, h1.run _ _ s r1 fun G1 σ1 H1 e1 s1 w1 => h2.run _ _ s1 (dpAll_up e1 r2) fun G2 σ2 H2 e2 s2 w2 => q G2 σ2 H2 (e1.trans e2) s2 fun vs h =>
      (w2 vs fun i hi => h i (List.mem_append_right _ hi)).trans (w1 vs fun i hi => h i (List.mem_append_left _ hi))⟩⟩
theorem eg_tup {n : Nat} {gs : TGs} {T : List Nat} {ds : List PyData} (h : EvGs gs T ρ ds ρ') (hn : ds.length = n) : EvG (gTup K n gs) T ρ (dat (.tuple ds)) ρ' := ⟨fun v Q s r q => by
  have r : Dq _ v (.tuple ds) := r
  cases r with
  | tup a b => exact ⟨_, _, rfl, .inl (.inl (s.same _ _ a)), by rw [dpAll_len b]; exact hn, h.run _ Q s b q⟩⟩
/-! ### walks -/
/-- what a walk J yields where G stands: the data ds, one by one -/
structure Gives (J : It) (G0 : Hp) (L0 : List Cell) (ds : List PyData) : Prop where
  go : ∀ i G L H, Same G0 G → Lay G (L ++ L0) H → (h : i < ds.length) → J.go i H ∧ ∀ x H', J.yld i H x H' → ∃ G', Same G G' ∧ (∀ L, Lay G (L ++ L0) H → Lay G' (L ++ L0) H') ∧ Dq G' x ds[i]
  stop : ∀ i G L H, Same G0 G → Lay G (L ++ L0) H → ds.length ≤ i → J.stop i H
structure EvI (K : PySem.W.Frag) (wi : TI) (ρ : List Sl) (ds : List PyData) : Prop where
  run : ∀ {G : Hp} {σ : L2.St} {L0 : List Cell} {H : Hp} (Q : It → Hp → Prop), Stt G ρ σ L0 H →
    (∀ G' H' J, Same G G' → Stt G' ρ σ L0 H' → Gives J G' L0 ds → Q J H') → wi σ H Q
/-- a list that stays, or somebody else's -/
structure EvS (K : PySem.W.Frag) (te : TE) (ρ : List Sl) (ds : List PyData) : Prop where
  run : ∀ {G : Hp} {σ : L2.St} {L0 : List Cell} {H : Hp} (Q : VK), Stt G ρ σ L0 H →
    (∀ G' H' a vs, Same G G' → Stt G' ρ σ L0 H' → (∀ G'' L'' H'', Same G' G'' → Lay G'' (L'' ++ L0) H'' → SqL K H'' a vs) → DqAll G' vs ds → Q (.ref a) H') → te σ H Q
theorem Ev.s {ds : List PyData} (h : Ev te ρ (pu (dat (.list ds)))) : EvS K te ρ ds := ⟨fun Q s q => h.atp s fun G' H' v e s' r => by
  have r : Dq G' v (.list ds) := r
  cases r with
  | lst a b => exact q G' H' _ _ e s' (fun G'' L'' H'' e2 l => .inl (.inl (l.same _ _ (e2 _ _ a)))) b⟩
theorem es_b {ds : List PyData} (h : ρ[i]? = some (.b (bL ds))) : EvS K (tVar i) ρ ds := ⟨fun Q s q => by
  obtain ⟨v, e, r⟩ := s.get_b h
  obtain ⟨a, vs, rfl, hc, d⟩ := r
  exact ⟨_, e, q _ _ a vs (Same.refl _) s (fun G'' L'' H'' e2 l => .inl (.inl (hc.elim (fun z => l.same _ _ (e2 _ _ z)) fun z => (l.on _ (List.mem_append_right _ z)).1))) d⟩⟩
theorem ei_list {ds : List PyData} (h : EvS K te ρ ds) : EvI K (iList K te) ρ ds := ⟨fun Q s q => h.run _ s fun G' H' a vs e s' hc d => by
  obtain ⟨L, sl, la⟩ := id s'
  refine ⟨a, rfl, ⟨vs, hc _ _ _ (Same.refl _) la⟩, q G' H' _ e s' ⟨fun i G L H e2 l hi => ?_, fun i G L H e2 l hi => ?_⟩⟩
  · have hq := hc _ _ _ e2 l
    obtain ⟨v, hv, dv⟩ := dpAll_get d (List.getElem?_eq_getElem hi)
    refine ⟨⟨vs, v, hq, hv⟩, fun x H' y => ?_⟩
    obtain ⟨rfl, y⟩ := y
    have ex : x = v := Option.some.inj ((y vs hq).symm.trans hv)
    subst ex
    exact ⟨G, Same.refl _, fun L l => l, dp_up e2 dv⟩
  · exact ⟨vs, hc _ _ _ e2 l, by rw [dpAll_len d]; exact hi⟩⟩
/-- lo, lo + 1, .. -/
def irange (lo : Int) (n : Nat) : List PyData := (List.range n).map fun k => .int (lo + (k : Nat))
theorem irange_len (lo : Int) (n : Nat) : (irange lo n).length = n := by simp [irange]
theorem gives_range {G : Hp} {L0 : List Cell} {lo : Int} {n : Nat} : Gives (Itr lo n) G L0 (irange lo n) :=
  ⟨fun i G L H e l hi => ⟨by rw [irange_len] at hi; exact hi, fun x H' y => by
    obtain ⟨rfl, rfl⟩ := y
    refine ⟨G, Same.refl _, fun L l => l, ?_⟩
    have e : (irange lo n)[i] = .int (lo + (i : Nat)) := by simp [irange]
    rw [e]
    exact Dq.int _⟩, fun i G L H e l hi => by rw [irange_len] at hi; exact hi⟩
theorem ei_range1 {ta : TA} {n : Int} (h : EvA ta ρ [pu (dI n)]) (h1 : -(2 ^ 62) ≤ n) (h2 : n < 2 ^ 62) : EvI K (iRng1 ta) ρ (irange 0 n.toNat) := ⟨fun Q s q => h.at s fun G' H' vs L e a b r => by
  cases r with
  | cons r1 r2 =>
    cases r2; cases r1
    exact ⟨n, rfl, h1, h2, q G' H' _ e ⟨L, a, b⟩ gives_range⟩⟩
theorem ei_range2 {ta : TA} {m n : Int} (h : EvA ta ρ [pu (dI m), pu (dI n)]) (h1 : -(2 ^ 62) ≤ m) (h2 : m < 2 ^ 62) (h3 : -(2 ^ 62) ≤ n) (h4 : n < 2 ^ 62) : EvI K (iRng2 ta) ρ (irange m (n - m).toNat) := ⟨fun Q s q => h.at s fun G' H' vs L e a b r => by
  cases r with
  | cons r1 r2 =>
    cases r2 with
    | cons r2 r3 =>
      cases r3; cases r1; cases r2
      exact ⟨m, n, rfl, ⟨h1, h2, h3, h4⟩, q G' H' _ e ⟨L, a, b⟩ gives_range⟩⟩
theorem ei_enum {ds : List PyData} (h : EvS K te ρ ds) : EvI K (iEnum K (tCons te tNil)) ρ (ds.zipIdx.map fun p => .tuple [.int ((p.2 : Nat) : Int), p.1]) := ⟨fun Q s q => h.run _ s fun G' H' a vs e s' hc d => by
  obtain ⟨L, sl, la⟩ := id s'
  refine ⟨a, vs, rfl, hc _ _ _ (Same.refl _) la, q G' H' _ e s' ⟨fun i G L H e2 l hi => ?_, fun i G L H e2 l hi => ?_⟩⟩
  · have hi' : i < ds.length := by simpa using hi
    have hq := hc _ _ _ e2 l
    obtain ⟨v, hv, dv⟩ := dpAll_get d (List.getElem?_eq_getElem hi')
    refine ⟨⟨vs, v, hq, hv⟩, fun x H' y => ?_⟩
    obtain ⟨T, x2, rfl, hT, rfl, y⟩ := y
    have ex : x2 = v := Option.some.inj ((y vs hq).symm.trans hv)
    subst ex
    have g := same_upd (o := .tup [.int (i : Nat), x2]) (l.freshG hT)
    refine ⟨_, g, fun L l => l.grow hT, ?_⟩
    have e3 : (ds.zipIdx.map fun p => PyData.tuple [.int ((p.2 : Nat) : Int), p.1])[i] = .tuple [.int ((i : Nat) : Int), ds[i]] := by simp
    rw [e3]
    exact Dq.tup upd_same (.cons (.int _) (.cons (dp_up (e2.trans g) dv) .nil))
  · exact ⟨vs, hc _ _ _ e2 l, by rw [dpAll_len d]; simpa using hi⟩⟩
/-! ### loops -/
/-- one turn and the next; f s x: the next state, or the loop's end -/
def runF {α S : Type} (f : S → α → Sum S Out) : S → List α → Sum S Out
  | s, [] => .inl s
  | s, x :: xs => match f s x with
    | .inl s' => runF f s' xs
    | .inr o => .inr o
theorem runF_app {α S : Type} {f : S → α → Sum S Out} : ∀ {xs ys : List α} {s s' : S}, runF f s xs = .inl s' → runF f s (xs ++ ys) = runF f s' ys
  | [], _, _, _, h => by
    cases h
    rfl
  | x :: xs, ys, s, s', h => by
    show (match f s x with | .inl s' => runF f s' (xs ++ ys) | .inr o => .inr o) = _
    unfold runF at h
    cases q : f s x with
    | inl s1 =>
      rw [q] at h
      exact runF_app h
    | inr o =>
      rw [q] at h
      cases h
def unbk : Out → Out
  | .bk ρ => .nx ρ
  | o => o
def loopOut {S : Type} (E : S → List Sl) : Sum S Out → Out
  | .inl s => .nx (E s)
  | .inr o => unbk o
def turnOut {S : Type} (E : S → List Sl) : Sum S Out → Out
  | .inl s => .go (E s)
  | .inr o => o
/-- an end of a loop's turn that leaves the loop -/
def Out.leaves : Out → Bool
  | .rt _ => true
  | .ro _ => true
  | .bk _ => true
  | .xc _ _ _ => true
  | _ => false
theorem Ex.forF {α S : Type} {wi : TI} {g : TG} {tb : TS} {xs : List α} {en : α → PyData} {T : List Nat} {s0 : S} (E : S → List Sl) (f : S → α → Sum S Out) (hi : EvI K wi ρ (xs.map en)) (h0 : Wk ρ (E s0))
    (hb : ∀ pre x post s, xs = pre ++ x :: post → runF f s0 pre = .inl s → (∀ o, f s x = .inr o → o.leaves = true) ∧ ∃ T ρ1, EvG g T (E s) (dat (en x)) ρ1 ∧ Ex W tb ρ1 (turnOut E (f s x))) :
    Ex W (tFor wi g tb) ρ (loopOut E (runF f s0 xs)) := ⟨fun {G σ L0 H} D s q => hi.run _ s fun G1 H1 J e1 s1 gv => by
  obtain ⟨G2, e2, s2⟩ := s1.weak h0
  refine ⟨fun i m σ H => m = xs.length - i ∧ i ≤ xs.length ∧ ∃ s G', runF f s0 (xs.take i) = .inl s ∧ Same G2 G' ∧ Stt G' (E s) σ L0 H, ⟨xs.length, by simp, Nat.zero_le _, s0, G2, rfl, Same.refl _, s2⟩, ?_⟩
  rintro i m σ' H' ⟨rfl, hi, s', G', hr, e3, s3⟩
  obtain ⟨L3, sl3, la3⟩ := id s3
  have e13 : Same G1 G' := e2.trans e3
  by_cases hlt : i < xs.length
  · right
    have hx : xs[i]? = some xs[i] := List.getElem?_eq_getElem hlt
    have hsplit : xs = xs.take i ++ xs[i] :: xs.drop (i + 1) := by
      rw [List.getElem_cons_drop, List.take_append_drop]
    obtain ⟨hlv, T, ρ1, hg, hbody⟩ := hb _ _ _ s' hsplit hr
    obtain ⟨g1, g2⟩ := gv.go i G' L3 H' e13 la3 (by simpa using hlt)
    refine ⟨g1, fun σ'' H'' => ∃ s G', runF f s0 (xs.take (i + 1)) = .inl s ∧ Same G2 G' ∧ Stt G' (E s) σ'' L0 H'', fun σ'' H'' ⟨s, G'', a, b, c⟩ => ⟨xs.length - (i + 1), by omega, rfl, hlt, s, G'', a, b, c⟩, fun x H4 y => ?_⟩
    obtain ⟨G4, e4, l4, d4⟩ := g2 x H4 y
    have d4 : Dq G4 x (en xs[i]) := by simpa using d4
    have s4 : Stt G4 (E s') σ' L0 H4 := ⟨L3, sl3.up e4, l4 _ la3⟩
    refine hg.run x _ s4 d4 fun G5 σ5 H5 e5 s5 _ => ?_
    have e25 : Same G2 G5 := (e3.trans e4).trans e5
    refine hbody.run _ s5 ?_
    have htake : runF f s0 (xs.take (i + 1)) = runF f s' [xs[i]] := by
      rw [List.take_add_one, hx]
      exact runF_app hr
    cases hf : f s' xs[i] with
    | inl s6 =>
      have z : runF f s0 (xs.take (i + 1)) = .inl s6 := by
        rw [htake]
        show (match f s' xs[i] with | .inl s' => runF f s' [] | .inr o => .inr o) = _
        rw [hf]
        rfl
      have k : ∀ G6 σ6 H6, Same G5 G6 → Stt G6 (E s6) σ6 L0 H6 → ∃ s G', runF f s0 (xs.take (i + 1)) = .inl s ∧ Same G2 G' ∧ Stt G' (E s) σ6 L0 H6 := fun G6 σ6 H6 e6 st => ⟨s6, G6, z, e25.trans e6, st⟩
      exact ⟨k, k⟩
    | inr o =>
      have z : runF f s0 xs = .inr o := by
        rw [hsplit, runF_app hr]
        show (match f s' xs[i] with | .inl s' => runF f s' _ | .inr o => .inr o) = _
        rw [hf]
      rw [z] at q
      have q : Post W D G L0 (unbk o) := q
      have q := q.mono (e1.trans (e2.trans e25))
      have hl := hlv o hf
      cases o with
      | nx _ => cases hl
      | go _ => cases hl
      | ct _ => cases hl
      | bk _ => exact q
      | rt _ => exact q
      | ro _ => exact q
      | xc _ _ _ => exact q
  · left
    have e : i = xs.length := by omega
    subst e
    rw [List.take_length] at hr
    rw [hr] at q
    exact ⟨gv.stop _ G' L3 H' e13 la3 (by simp), q G' σ' H' (e1.trans e13) s3⟩⟩
/-- a loop that goes through: the state by the part taken -/
theorem Ex.for_ {α : Type} {wi : TI} {g : TG} {tb : TS} {xs : List α} {en : α → PyData} (E : List α → List Sl) (hi : EvI K wi ρ (xs.map en)) (h0 : Wk ρ (E []))
    (hb : ∀ pre x post, xs = pre ++ x :: post → ∃ T ρ1, EvG g T (E pre) (dat (en x)) ρ1 ∧ Ex W tb ρ1 (.go (E (pre ++ [x])))) :
    Ex W (tFor wi g tb) ρ (.nx (E xs)) := by
  have key : ∀ ys zs : List α, runF (fun (s : List α) x => (.inl (s ++ [x]) : Sum (List α) Out)) ys zs = .inl (ys ++ zs) := by
    intro ys zs
    induction zs generalizing ys with
    | nil => simp [runF]
    | cons z zs ih =>
      show runF _ (ys ++ [z]) zs = _
      rw [ih]
      simp
  have h := Ex.forF (W := W) (T := []) (s0 := ([] : List α)) (wi := wi) (g := g) (tb := tb) (xs := xs) (en := en) (ρ := ρ) E (fun s x => .inl (s ++ [x])) hi h0 (fun pre x post s e r => by
    rw [key] at r
    have r : [] ++ pre = s := Sum.inl.inj r
    rw [List.nil_append] at r
    subst r
    exact ⟨fun o z => (by cases z), hb pre x post e⟩)
  rw [key] at h
  exact h
end
end Z

set_option Elab.async false
set_option linter.all false
set_option maxRecDepth 100000
set_option maxHeartbeats 2000000
/-! Zd: comprehensions, lists changed, slices, calls of builtins. -/
namespace Z
open PySem PySem.Spec PyProof.Rows L2
theorem Slots.mono {G : Hp} {L0 L1 : List Cell} (h : ∀ c ∈ L0, c ∈ L1) : ∀ {σ ρ L}, Slots G L0 σ ρ L → Slots G L1 σ ρ L
  | _, _, _, .nil => .nil
  | _, _, _, .x s => .x (s.mono h)
  | _, _, _, .p q s => .p q (s.mono h)
  | _, _, _, .o q s => .o q (s.mono h)
  | _, _, _, .b q s => .b (Bw.up _ (Same.refl _) h q) (s.mono h)
/-- the new facts, the borrowed ones by the old frame -/
theorem Slots.mix {G G' : Hp} {L0 L1 : List Cell} (e : Same G G') : ∀ {σ ρ L L'}, Slots G L0 σ ρ L → Slots G' L1 σ ρ L' → Slots G' L0 σ ρ L'
  | _, _, _, _, .nil, .nil => .nil
  | _, _, _, _, .x s, .x s' => .x (s.mix e s')
  | _, _, _, _, .p _ s, .p q s' => .p q (s.mix e s')
  | _, _, _, _, .o _ s, .o q s' => .o q (s.mix e s')
  | _, _, _, _, .b q s, .b _ s' => .b (Bw.up _ e (fun _ z => z) q) (s.mix e s')
/-- slots that tell nothing may hold anything -/
theorem Slots.agree {G : Hp} {L0 : List Cell} : ∀ {σ : L2.St} {ρ : List Sl} {L} {σ' : L2.St}, Slots G L0 σ ρ L → σ'.length = σ.length → (∀ j : Nat, ρ[j]? ≠ some Sl.x → σ'[j]? = σ[j]?) → Slots G L0 σ' ρ L
  | _, _, _, [], .nil, _, _ => .nil
  | _, _, _, [], .x _, h, _ | _, _, _, [], .p _ _, h, _ | _, _, _, [], .o _ _, h, _ | _, _, _, [], .b _ _, h, _ => by simp at h
  | _, _, _, _ :: _, .nil, h, _ => by simp at h
  | _, _, _, v :: σ', .x s, h, k => .x (s.agree (by simpa using h) fun j hj => by simpa using k (j + 1) (by simpa using hj))
  | _, _, _, v :: σ', .p q s, h, k => by
    have e := k 0 (by simp)
    simp at e
    subst e
    exact .p q (s.agree (by simpa using h) fun j hj => by simpa using k (j + 1) (by simpa using hj))
  | _, _, _, v :: σ', .b q s, h, k => by
    have e := k 0 (by simp)
    simp at e
    subst e
    exact .b q (s.agree (by simpa using h) fun j hj => by simpa using k (j + 1) (by simpa using hj))
  | _, _, _, v :: σ', .o q s, h, k => by
    have e := k 0 (by simp)
    simp at e
    subst e
    exact .o q (s.agree (by simpa using h) fun j hj => by simpa using k (j + 1) (by simpa using hj))
/-- the slots vs tell nothing -/
def AllX (ρ : List Sl) : List Nat → Prop
  | [] => True
  | v :: vs => ρ[v]? = some Sl.x ∧ AllX ρ vs
theorem AllX.at {ρ : List Sl} : ∀ {vs : List Nat} {v : Nat}, AllX ρ vs → v ∈ vs → ρ[v]? = some Sl.x
  | [], _, _, h => by simp at h
  | w :: vs, v, ⟨h1, h2⟩, h => by
    rcases List.mem_cons.mp h with z | z
    · rw [z]; exact h1
    · exact h2.at z
theorem wipe_agree {ρ : List Sl} {σ : L2.St} {vs : List Nat} (h : AllX ρ vs) : ∀ j : Nat, ρ[j]? ≠ some Sl.x → (wipe σ vs)[j]? = σ[j]? := fun j hj => by
  rw [wipe_get]
  by_cases hm : j ∈ vs
  · exact absurd (h.at hm) hj
  · rw [if_neg hm]
theorem wipe_two {ρ : List Sl} {σ σ' : L2.St} {vs : List Nat} (h : AllX ρ vs) (e : wipe σ' vs = wipe σ vs) : ∀ j : Nat, ρ[j]? ≠ some Sl.x → σ'[j]? = σ[j]? := fun j hj => by
  rw [← wipe_agree (σ := σ') h j hj, e, wipe_agree h j hj]
theorem len_two {σ σ' : L2.St} {vs : List Nat} (e : wipe σ' vs = wipe σ vs) : σ'.length = σ.length := by
  have := congrArg List.length e
  rwa [wipe_length, wipe_length] at this
section
variable {K : PySem.W.Frag} {W : WX} {ρ ρ' ρ1 : List Sl} {te ta tb : TE} {t u : TS} {R : Rp} {B : Bw} {o : Out} {i : Nat}
theorem filt_take {α : Type} (p : α → Bool) {xs : List α} {i : Nat} {x : α} (h : xs[i]? = some x) : (xs.take (i + 1)).filter p = (xs.take i).filter p ++ (if p x = true then [x] else []) := by
  rw [List.take_add_one, h, List.filter_append]
  congr 1
  by_cases hp : p x = true
  · rw [if_pos hp]; simp [hp]
  · rw [if_neg hp]; simp [hp]
/-- [f x for x in xs if p x] -/
theorem en_lc {α : Type} {wi : TI} {g : TG} {tt : TT} {vs : List Nat} {xs : List α} {en f : α → PyData} {p : α → Bool} (hi : EvI K wi ρ (xs.map en)) (hx : AllX ρ vs) (hz : xs.length ≤ 100000)
    (hb : ∀ x ∈ xs, ∃ T ρ1, EvG g T ρ (dat (en x)) ρ1 ∧ (∀ i ∈ T, i ∈ vs) ∧ Wk ρ1 ρ ∧ EvT tt ρ1 (p x) ∧ (p x = true → Ev te ρ1 (pu (dat (f x))))) : EvN (tLc wi g tt te vs) ρ ((xs.filter p).map f) := ⟨fun {G σ L0 H} Q s q => hi.run _ s fun G1 H1 J e1 s1 gv D hD => by
  obtain ⟨L1, sl1, la1⟩ := id s1
  refine ⟨fun i m H => m = xs.length - i ∧ i ≤ xs.length ∧ ∃ G' ws L', Same G1 G' ∧ Slots G' L0 σ ρ L' ∧ Lay G' (L' ++ ((D, HO.lst ws) :: L0)) H ∧ DqAll G' ws (((xs.take i).filter p).map f), ⟨xs.length, by simp, Nat.zero_le _, G1, [], L1, Same.refl _, sl1, ?_, .nil⟩, ?_⟩
  · exact (la1.cell hD).perm List.perm_middle.symm
  rintro i m H2 ⟨rfl, hi, G2, ws, L2', e2, sl2, la2, d2⟩
  have la2' : Lay G2 ((L2' ++ [(D, HO.lst ws)]) ++ L0) H2 := by
    rw [List.append_assoc]
    exact la2
  by_cases hlt : i < xs.length
  · right
    have hxe : xs[i]? = some xs[i] := List.getElem?_eq_getElem hlt
    obtain ⟨g1, g2⟩ := gv.go i G2 _ H2 e2 la2' (by simpa using hlt)
    refine ⟨g1, fun H => ∃ G' ws L', Same G1 G' ∧ Slots G' L0 σ ρ L' ∧ Lay G' (L' ++ ((D, HO.lst ws) :: L0)) H ∧ DqAll G' ws (((xs.take (i + 1)).filter p).map f), fun H' ⟨G', ws, L', a, b, c, d⟩ => ⟨xs.length - (i + 1), by omega, rfl, hlt, G', ws, L', a, b, c, d⟩, fun x H3 y => ?_⟩
    obtain ⟨G3, e3, l3, d3⟩ := g2 x H3 y
    have d3 : Dq G3 x (en xs[i]) := by simpa using d3
    have la3 : Lay G3 (L2' ++ ((D, HO.lst ws) :: L0)) H3 := by
      have := l3 _ la2'
      rw [List.append_assoc] at this
      exact this
    obtain ⟨T, ρ1, hg, hT, hwk, ht, hf⟩ := hb xs[i] (List.getElem_mem hlt)
    have sw : Stt G3 ρ (wipe σ vs) ((D, HO.lst ws) :: L0) H3 := ⟨L2', ((sl2.up e3).mono fun c hc => List.mem_cons_of_mem _ hc).agree (wipe_length σ vs) (wipe_agree hx), la3⟩
    refine hg.run x _ sw d3 fun G4 σ4 H4 e4 s4 w4 => ?_
    have hw4 : wipe σ4 vs = wipe σ vs := by
      rw [w4 vs hT]
      apply List.ext_getElem?
      intro j
      rw [wipe_get, wipe_get]
      by_cases hj : j ∈ vs
      · simp only [if_pos hj]
        cases σ[j]? <;> rfl
      · simp only [if_neg hj]
    refine ⟨hw4, ?_⟩
    -- back to the outer slots
    have back : ∀ {G5 H5}, Same G3 G5 → Stt G5 ρ1 σ4 ((D, HO.lst ws) :: L0) H5 → ∃ G6 L6, Same G5 G6 ∧ Slots G6 L0 σ ρ L6 ∧ Lay G6 (L6 ++ ((D, HO.lst ws) :: L0)) H5 := fun {G5 H5} e5 s5 => by
      obtain ⟨G6, e6, L6, sl6, la6⟩ := s5.weak hwk
      have sl6' := sl6.agree (σ' := σ) (len_two hw4).symm fun j hj => (wipe_two hx hw4 j hj).symm
      exact ⟨G6, L6, e6, (sl2.up e3).mix (e5.trans e6) sl6', la6⟩
    refine ht.run _ s4 fun G5 H5 e5 s5 => ?_
    cases hp : p xs[i] with
    | true =>
      show te _ _ _
      refine (hf hp).atp s5 fun G6 H6 y e6 s6 r6 => ?_
      obtain ⟨G7, L7, e7, sl7, la7⟩ := back ((e4.trans e5).trans e6) s6
      have hc : H6 D = some (HO.lst ws) := (la7.on (D, HO.lst ws) (List.mem_append_right _ (List.mem_cons_self ..))).1
      have e27 : Same G2 G7 := e3.trans (((e4.trans e5).trans e6).trans e7)
      refine ⟨ws, hc, ?_, G7, ws ++ [y], L7, e2.trans e27, sl7, ?_, ?_⟩
      · rw [dpAll_len d2, List.length_map]
        have h1 : ((xs.take i).filter p).length ≤ (xs.take i).length := List.length_filter_le ..
        have h2 : (xs.take i).length ≤ i := by rw [List.length_take]; exact Nat.min_le_left ..
        exact Nat.lt_of_lt_of_le (by omega : _ < 100001) (by decide)
      · exact ((la7.perm List.perm_middle).store).perm List.perm_middle.symm
      · rw [filt_take p hxe, hp, if_pos rfl, List.map_append]
        exact dpAll_app (dpAll_up e27 d2) (.cons (dp_up e7 r6) .nil)
    | false =>
      show ∃ G' ws L', _
      obtain ⟨G7, L7, e7, sl7, la7⟩ := back (e4.trans e5) s5
      have e27 : Same G2 G7 := e3.trans ((e4.trans e5).trans e7)
      refine ⟨G7, ws, L7, e2.trans e27, sl7, la7, ?_⟩
      rw [filt_take p hxe, hp, if_neg Bool.false_ne_true, List.append_nil]
      exact dpAll_up e27 d2
  · left
    have ei : i = xs.length := by omega
    subst ei
    refine ⟨gv.stop _ G2 _ H2 e2 la2' (by simp), ?_⟩
    rw [List.take_length] at d2
    -- the list taken out again
    have la4 : Lay G2 ((D, HO.lst ws) :: (L2' ++ L0)) H2 := la2.perm List.perm_middle
    have hne := la4.ne
    have eH : H2 = upd (fun b => if b = D then none else H2 b) D (.lst ws) := by
      funext b
      by_cases hb : b = D
      · rw [hb, upd_same]; exact (la4.on _ (List.mem_cons_self ..)).1
      · rw [upd_ne hb, if_neg hb]
    have la5 : Lay G2 (L2' ++ L0) (fun b => if b = D then none else H2 b) := by
      refine ⟨fun b hb => ?_, fun c hc => ?_, ?_⟩
      · by_cases h : b = D
        · rw [h, if_pos rfl]; exact ((la4.on _ (List.mem_cons_self ..)).2).symm
        · rw [if_neg h]
          refine la4.off b fun c hc => ?_
          rcases List.mem_cons.mp hc with z | z
          · subst z; exact fun z => h z.symm
          · exact hb c z
      · rw [if_neg (hne c hc)]; exact la4.on c (List.mem_cons_of_mem _ hc)
      · have := la4.nd
        rw [List.map_cons, List.nodup_cons] at this
        exact this.2
    rw [eH]
    exact q G2 _ D ws (e1.trans e2) ⟨L2', sl2, la5⟩ (if_pos rfl) d2⟩
/-- without an if -/
theorem en_lc0 {α : Type} {wi : TI} {g : TG} {vs : List Nat} {xs : List α} {en f : α → PyData} (hi : EvI K wi ρ (xs.map en)) (hx : AllX ρ vs) (hz : xs.length ≤ 100000)
    (hb : ∀ x ∈ xs, ∃ T ρ1, EvG g T ρ (dat (en x)) ρ1 ∧ (∀ i ∈ T, i ∈ vs) ∧ Wk ρ1 ρ ∧ Ev te ρ1 (pu (dat (f x)))) : EvN (tLc wi g tYes te vs) ρ (xs.map f) := by
  have h := en_lc (p := fun _ => true) hi hx hz (tt := tYes) (g := g) (te := te) (f := f) fun x hxm => by
    obtain ⟨T, ρ1, h1, h2, h3, h4⟩ := hb x hxm
    exact ⟨T, ρ1, h1, h2, h3, ⟨fun Q s q => q _ _ (Same.refl _) s⟩, fun _ => h4⟩
  rw [List.filter_eq_self.mpr (fun _ _ => rfl)] at h
  exact h
/-! ### lists that change -/
theorem oL_cell {G : Hp} {a : Addr} {cs : List Cell} {ds : List PyData} (h : (oL ds).p G a cs) : ∃ vs, cs = [(a, HO.lst vs)] ∧ DqAll G vs ds := h
/-- x.append(e), x an owned list -/
theorem Ex.append {ds : List PyData} {d : PyData} {T : String} (hi : ρ[i]? = some (.o (oL ds))) (he : Ev te ρ (pu (dat d))) (hz : ds.length < 1000000) (hT : T = "list") : Ex W (tDrop (tBM K T rAppend (tVar i) (tCons te tNil))) ρ (.nx (ρ.set i (.o (oL (ds ++ [d]))))) := ⟨fun {G σ L0 H} D s q => by
  obtain ⟨a, cs, e, ⟨vs, hcs, hd⟩, hh, _⟩ := s.get_o hi
  subst hcs
  refine ⟨_, e, .inl ⟨hT, vs, .inl (.inl (hh _ (List.mem_cons_self ..)))⟩, ?_⟩
  refine he.atp s fun G1 H1 v e1 s1 r => ?_
  obtain ⟨a', cs', e', ⟨vs', hcs', hd'⟩, hh', k1, _⟩ := s1.get_o hi
  rw [e] at e'
  injection e' with e'; injection e' with e'; injection e' with e'
  subst e' hcs'
  refine ⟨a, vs', v, rfl, rfl, hh' _ (List.mem_cons_self ..), ?_, ?_⟩
  · rw [dpAll_len hd']; exact Nat.lt_trans hz (by decide)
  · exact q G1 _ _ e1 (k1 (oL (ds ++ [d])) [(a, .lst (vs' ++ [v]))] _ ⟨_, rfl, dpAll_app hd' (.cons r .nil)⟩ fun M l => l.store)⟩
/-- x[k] = e, x an owned list -/
theorem Ex.setitem {ds : List PyData} {d : PyData} {k : Int} {j : Nat} (hi : ρ[i]? = some (.o (oL ds))) (he : Ev te ρ (pu (dat d))) (hk : Ev ta ρ (pu (dI k))) (hj : ixN ds.length k = some j) : Ex W (tAsg te (gSub (tVar i) ta rSetL)) ρ (.nx (ρ.set i (.o (oL (ds.set j d))))) := ⟨fun {G σ L0 H} D s q => he.atp s fun G1 H1 v e1 s1 r => by
  obtain ⟨a, cs, e, _⟩ := s1.get_o hi
  refine ⟨_, e, ?_⟩
  refine hk.atp s1 fun G2 H2 w e2 s2 r2 => ?_
  cases r2
  obtain ⟨a', cs', e', ⟨vs', hcs', hd'⟩, hh', k1, _⟩ := s2.get_o hi
  rw [e] at e'
  injection e' with e'; injection e' with e'; injection e' with e'
  subst e' hcs'
  refine ⟨a, vs', k, j, rfl, rfl, hh' _ (List.mem_cons_self ..), by rw [dpAll_len hd']; exact hj, ?_⟩
  exact q G2 _ _ (e1.trans e2) (k1 (oL (ds.set j d)) [(a, .lst (vs'.set j v))] _ ⟨_, rfl, dpAll_set (dp_up e2 r) j hd'⟩ fun M l => l.store)⟩
/-- x op= e -/
theorem Ex.aug {r : R2} {Ra Rb : Rp} (hi : ρ[i]? = some (.p Ra)) (he : Ev te ρ (pu Rb)) (h : Op2 r (pu Ra) (pu Rb) R) : Ex W (tAug i te r) ρ (.nx (ρ.set i (.p R))) := ⟨fun {G σ L0 H} D s q => by
  obtain ⟨v, e, r1⟩ := s.get_p hi
  refine ⟨v, e, ?_⟩
  refine he.atp s fun G1 H1 w e1 s1 r2 => ?_
  obtain ⟨L, a, b⟩ := id s1
  refine h G1 H1 _ v w _ b (Ra.up e1 r1) r2 fun z rz => ?_
  obtain ⟨G2, e2, s2⟩ := s1.set_p rz i
  exact q G2 _ _ (e1.trans e2) s2⟩
/-! ### slices, + and * -/
structure EvO (to : TO) (ρ : List Sl) (k : Option Int) : Prop where
  run : ∀ {G : Hp} {σ : L2.St} {L0 : List Cell} {H : Hp} (Q : Option Int → Hp → Prop), Stt G ρ σ L0 H → (∀ G' H', Same G G' → Stt G' ρ σ L0 H' → Q k H') → to σ H Q
theorem eo_none : EvO tNoPart ρ none := ⟨fun Q s q => q _ _ (Same.refl _) s⟩
theorem eo_some {k : Int} (h : Ev te ρ (pu (dI k))) : EvO (tPart te) ρ (some k) := ⟨fun Q s q => h.atp s fun G' H' v e s' r => by
  cases r
  exact ⟨k, rfl, q _ _ e s'⟩⟩
def cutD (ds : List PyData) (lo hi : Option Int) : List PyData := (ds.drop (HT.sIx ds.length 0 lo)).take (HT.sIx ds.length ds.length hi - HT.sIx ds.length 0 lo)
theorem cut_all {G : Hp} {vs : List V} {ds : List PyData} (h : DqAll G vs ds) (lo hi : Option Int) : DqAll G (cutV vs lo hi) (cutD ds lo hi) := by
  unfold cutV cutD
  rw [dpAll_len h]
  exact dpAll_take _ (dpAll_drop _ h)
theorem en_sl {tl th : TO} {ds : List PyData} {lo hi : Option Int} (h : Ev te ρ (bL ds)) (h1 : EvO tl ρ lo) (h2 : EvO th ρ hi) : EvN (tSl (rSlL K) te tl th) ρ (cutD ds lo hi) := ⟨fun Q s q =>
  h.run _ s fun G1 H1 v e1 s1 r => h1.run _ s1 fun G2 H2 e2 s2 => h2.run _ s2 fun G3 H3 e3 s3 => by
    obtain ⟨L, a, b⟩ := id s3
    obtain ⟨p, vs, rfl, hv, d⟩ := bl_sq b (r G3 L H3 (e2.trans e3) a b)
    exact ⟨p, vs, rfl, .inl (.inl hv), fun n hn => q G3 H3 n _ ((e1.trans e2).trans e3) s3 hn (cut_all d lo hi)⟩⟩
theorem ev_slT {tl th : TO} {ds : List PyData} {lo hi : Option Int} (h : Ev te ρ (pu (dat (.tuple ds)))) (h1 : EvO tl ρ lo) (h2 : EvO th ρ hi) (hn : ¬ (HT.sIx ds.length 0 lo = 0 ∧ HT.sIx ds.length ds.length hi = ds.length)) : Ev (tSl (rSlT K) te tl th) ρ (pu (dat (.tuple (cutD ds lo hi)))) := Ev.pure fun Q s q =>
  h.run _ s fun G1 H1 v e1 s1 r => h1.run _ s1 fun G2 H2 e2 s2 => h2.run _ s2 fun G3 H3 e3 s3 => by
    obtain ⟨L, a, b⟩ := id s3
    have r : Dq G3 v (.tuple ds) := r G3 L H3 (e2.trans e3) a b
    cases r with
    | @tup _ xs _ hv d =>
      refine ⟨_, _, rfl, .inl (.inl (b.same _ _ hv)), by rw [dpAll_len d]; exact hn, fun n hn => ?_⟩
      have g := s3.grow (o := .tup (cutV xs lo hi)) hn
      exact q _ _ _ (((e1.trans e2).trans e3).trans g.1) g.2 (Dq.tup upd_same (dpAll_up g.1 (cut_all d lo hi)))
theorem o_cat {ds es : List PyData} (hz : ds.length + es.length ≤ 1000000) : Op2N rCat (bL ds) (bL es) (ds ++ es) := fun G H L x y Q l hx hy q => by
  obtain ⟨a, vs, rfl, h, d⟩ := bl_sq l hx
  obtain ⟨b, ws, rfl, k, e⟩ := bl_sq l hy
  exact ⟨a, b, vs, ws, rfl, rfl, h, k, by rw [dpAll_len d, dpAll_len e]; exact Nat.le_trans hz (by decide), fun p hp => q p _ hp (dpAll_app d e)⟩
theorem o_rep {ds : List PyData} {k : Int} (hz : ds.length * k.toNat ≤ 1000000) (h1 : -(2 ^ 63) ≤ k) (h2 : k < 2 ^ 63) : Op2N rRep (bL ds) (pu (dI k)) (List.replicate k.toNat ds).flatten := fun G H L x y Q l hx hy q => by
  obtain ⟨a, vs, rfl, h, d⟩ := bl_sq l hx
  cases hy
  exact ⟨a, k, vs, rfl, rfl, h, h1, h2, by rw [dpAll_len d]; exact Nat.le_trans hz (by decide), fun p hp => q p _ hp (dpAll_rep _ d)⟩
/-! ### builtins -/
abbrev cLen (K : PySem.W.Frag) : List V → Hp → VK → Prop := fun xs H Q => ∃ p ys, xs = [.ref p] ∧ (SqL K H p ys ∨ SqT K H p ys) ∧ Q (.int ys.length) H
theorem cl_len {ds : List PyData} : Cl (cLen K) [bL ds] (dI ds.length) := fun G H L vs Q l r q => by
  cases r with
  | cons h t =>
    cases t
    obtain ⟨a, ws, rfl, hv, d⟩ := bl_sq l h
    refine ⟨a, ws, rfl, .inl (.inl (.inl hv)), q _ ?_⟩
    rw [dpAll_len d]
    exact Dq.int _
abbrev cList (K : PySem.W.Frag) : List V → Hp → VK → Prop := fun xs H Q => ∃ p ys, xs = [.ref p] ∧ (SqL K H p ys ∨ SqT K H p ys) ∧ ∀ l, H l = none → Q (.ref l) (upd H l (.lst ys))
theorem cl_list {ds : List PyData} : ClN (cList K) [bL ds] ds := fun G H L vs Q l r q => by
  cases r with
  | cons h t =>
    cases t
    obtain ⟨a, ws, rfl, hv, d⟩ := bl_sq l h
    exact ⟨a, ws, rfl, .inl (.inl (.inl hv)), fun p hp => q p ws hp d⟩
abbrev cAbs : List V → Hp → VK → Prop := fun xs H Q => ∃ i, xs = [.int i] ∧ Q (.int (if i < 0 then -i else i)) H
theorem cl_abs {n : Int} : Cl cAbs [pu (dI n)] (dI (if n < 0 then -n else n)) := fun G H L vs Q l r q => by
  cases r with
  | cons h t =>
    cases t; cases h
    exact ⟨n, rfl, q _ (Dq.int _)⟩
abbrev cMin2 : List V → Hp → VK → Prop := fun xs H Q => ∃ i j, xs = [.int i, .int j] ∧ Q (.int (if j < i then j else i)) H
theorem cl_min2 {m n : Int} : Cl cMin2 [pu (dI m), pu (dI n)] (dI (if n < m then n else m)) := fun G H L vs Q l r q => by
  cases r with
  | cons h t =>
    cases t with
    | cons h2 t =>
      cases t; cases h; cases h2
      exact ⟨m, n, rfl, q _ (Dq.int _)⟩
abbrev cMax2 : List V → Hp → VK → Prop := fun xs H Q => ∃ i j, xs = [.int i, .int j] ∧ Q (.int (if j > i then j else i)) H
theorem cl_max2 {m n : Int} : Cl cMax2 [pu (dI m), pu (dI n)] (dI (if n > m then n else m)) := fun G H L vs Q l r q => by
  cases r with
  | cons h t =>
    cases t with
    | cons h2 t =>
      cases t; cases h; cases h2
      exact ⟨m, n, rfl, q _ (Dq.int _)⟩
abbrev cInt : List V → Hp → VK → Prop := fun xs H Q => (∃ i, xs = [.int i] ∧ Q (.int i) H) ∨ ∃ k, xs = [.bl k] ∧ Q (.int (if k then 1 else 0)) H
theorem cl_int {n : Int} : Cl cInt [pu (dI n)] (dI n) := fun G H L vs Q l r q => by
  cases r with
  | cons h t =>
    cases t; cases h
    exact .inl ⟨n, rfl, q _ (Dq.int _)⟩
theorem cl_intB {b : Bool} : Cl cInt [pu (dB b)] (dI (if b then 1 else 0)) := fun G H L vs Q l r q => by
  cases r with
  | cons h t =>
    cases t; cases h
    exact .inr ⟨b, rfl, q _ (Dq.int _)⟩
theorem cl_sum {ns : List Int} : Cl (rSum K) [bL (ns.map PyData.int)] (dI ns.sum) := fun G H L vs Q l r q => by
  cases r with
  | cons h t =>
    cases t
    obtain ⟨a, ws, rfl, hv, d⟩ := bl_sq l h
    rw [dpAll_ints d] at hv
    exact ⟨a, ns, rfl, .inl (.inl hv), q _ (Dq.int _)⟩
theorem cl_any {bs : List Bool} : Cl (rAny K) [bL (bs.map PyData.bool)] (dB (bs.any id)) := fun G H L vs Q l r q => by
  cases r with
  | cons h t =>
    cases t
    obtain ⟨a, ws, rfl, hv, d⟩ := bl_sq l h
    rw [dpAll_bools d] at hv
    exact ⟨a, bs, rfl, .inl (.inl hv), q _ (Dq.bl _)⟩
theorem cl_all {bs : List Bool} : Cl (rAll K) [bL (bs.map PyData.bool)] (dB (bs.all id)) := fun G H L vs Q l r q => by
  cases r with
  | cons h t =>
    cases t
    obtain ⟨a, ws, rfl, hv, d⟩ := bl_sq l h
    rw [dpAll_bools d] at hv
    exact ⟨a, bs, rfl, .inl (.inl hv), q _ (Dq.bl _)⟩
/-! x in (a, b), x in [a, b]: ints -/
theorem flat_ints : ∀ ns : List Int, (ns.map V.int).all flatV = true
  | [] => rfl
  | n :: ns => by
    rw [List.map_cons, List.all_cons, flat_ints ns]; rfl
theorem inV_ints (n : Int) : ∀ ns : List Int, inV (.int n) (ns.map V.int) = decide (n ∈ ns)
  | [] => rfl
  | m :: ns => by
    show ((m :: ns).map V.int).any _ = _
    rw [List.map_cons, List.any_cons]
    have ih := inV_ints n ns
    unfold inV at ih
    rw [ih]
    have e : eqV (V.int m) (V.int n) = decide (n = m) := by
      show (m == n) = decide (n = m)
      by_cases h : m = n
      · subst h; simp
      · have h' : ¬ n = m := fun z => h z.symm
        simp [h, h']
    rw [e]
    by_cases h : n = m
    · simp [h]
    · simp [h]
theorem o_inT {n : Int} {ns : List Int} : Op2 (rIn K false) (pu (dI n)) (pu (dat (.tuple (ns.map PyData.int)))) (dB (decide (n ∈ ns))) := fun G H L x y Q l hx hy q => by
  cases hx
  have hy : Dq G y (.tuple (ns.map PyData.int)) := hy
  cases hy with
  | tup h d =>
    rw [dpAll_ints d] at h
    refine ⟨_, _, rfl, .inr (.inl (.inl (l.same _ _ h))), rfl, flat_ints ns, q _ ?_⟩
    show Dq G (.bl (inV _ _)) _
    rw [inV_ints]
    exact Dq.bl _
theorem o_inL {n : Int} {ns : List Int} : Op2 (rIn K false) (pu (dI n)) (bL (ns.map PyData.int)) (dB (decide (n ∈ ns))) := fun G H L x y Q l hx hy q => by
  cases hx
  obtain ⟨a, ws, rfl, hv, d⟩ := bl_sq l hy
  rw [dpAll_ints d] at hv
  refine ⟨_, _, rfl, .inl (.inl (.inl hv)), rfl, flat_ints ns, q _ ?_⟩
  show Dq G (.bl (inV _ _)) _
  rw [inV_ints]
  exact Dq.bl _
theorem o_notInL {n : Int} {ns : List Int} : Op2 (rIn K true) (pu (dI n)) (bL (ns.map PyData.int)) (dB (!decide (n ∈ ns))) := fun G H L x y Q l hx hy q => by
  cases hx
  obtain ⟨a, ws, rfl, hv, d⟩ := bl_sq l hy
  rw [dpAll_ints d] at hv
  refine ⟨_, _, rfl, .inl (.inl (.inl hv)), rfl, flat_ints ns, q _ ?_⟩
  show Dq G (.bl (!inV _ _)) _
  rw [inV_ints]
  exact Dq.bl _
/-- is None -/
def isNone : PyData → Bool
  | .none => true
  | _ => false
theorem o_isN {d : PyData} : Op2 (fun x y H Q => y = .non ∧ Q (.bl (decide (x = .non))) H) (pu (dat d)) (pu (dat .none)) (dB (isNone d)) := fun G H L x y Q l hx hy q => by
  have hx : Dq G x d := hx
  cases hy
  refine ⟨rfl, q _ ?_⟩
  cases hx <;> exact Dq.bl _
theorem o_notN {d : PyData} : Op2 (fun x y H Q => y = .non ∧ Q (.bl (!decide (x = .non))) H) (pu (dat d)) (pu (dat .none)) (dB (!isNone d)) := fun G H L x y Q l hx hy q => by
  have hx : Dq G x d := hx
  cases hy
  refine ⟨rfl, q _ ?_⟩
  cases hx <;> exact Dq.bl _
end
end Z

set_option Elab.async false
set_option linter.all false
set_option maxRecDepth 100000
set_option maxHeartbeats 2000000
/-! Ze: promises, calls, errors, instances. -/
namespace Z
open PySem PySem.Spec PyProof.Rows L2
/-! ### promises -/
inductive Res where
  | ok (R : Rp) | own (O : Op) | err (C : Addr) (n : Int)
def ResP (Q : VK) (E : XK) (G : Hp) (L : List Cell) : Res → Prop
  | .ok R => ∀ G' H' v, Same G G' → Lay G' L H' → R.p G' v → Q v H'
  | .own O => ∀ G' H' a cs, Same G G' → Lay G' (cs ++ L) H' → O.p G' a cs → Q (.ref a) H'
  | .err C n => ∀ G' H' d, Same G G' → Lay G' L H' → H' d = none → E (.ref C) (some d) (upd H' d (atF n))
/-- from arguments A x to the result R x, wherever pre x -/
def SpA {α : Type} (pre : α → Prop) (A : α → List Bw) (R : α → Res) : Sp := fun vs H Q E => ∃ x G L, pre x ∧ Lay G L H ∧ AllB G L vs (A x) ∧ ResP Q E G L (R x)
theorem allB_len {G : Hp} {L : List Cell} : ∀ {vs : List V} {Bs : List Bw}, AllB G L vs Bs → vs.length = Bs.length
  | _, _, .nil => rfl
  | _, _, .cons _ t => by simp [allB_len t]
theorem SpA.len {α : Type} {pre : α → Prop} {A : α → List Bw} {R : α → Res} {n : Nat} (h : ∀ x, (A x).length = n) : ∀ vs H Q E, SpA pre A R vs H Q E → vs.length = n := fun vs H Q E ⟨x, G, L, _, _, a, _⟩ => by
  rw [allB_len a, h]
/-- the slots at a def's start -/
def st0 (Bs : List Bw) (k : Nat) : List Sl := Bs.map Sl.b ++ List.replicate k Sl.x
def Res.out (ρ : List Sl) : Res → Out
  | .ok R => .rt R
  | .own O => .ro O
  | .err C n => .xc ρ C n
theorem slots_x {G : Hp} {L0 : List Cell} : ∀ k, Slots G L0 (List.replicate k none) (List.replicate k Sl.x) []
  | 0 => .nil
  | k + 1 => .x (slots_x k)
theorem slots_start {G : Hp} {L0 : List Cell} (k : Nat) : ∀ {vs : List V} {Bs : List Bw}, AllB G L0 vs Bs → Slots G L0 (vs.map some ++ List.replicate k none) (st0 Bs k) []
  | _, _, .nil => slots_x k
  | _, _, .cons h t => .b h (slots_start k t)
abbrev WofE (E : XK) : WX := fun cls d _ H => E cls d H
theorem SpA.run {α : Type} {pre : α → Prop} {A : α → List Bw} {R : α → Res} {vs : List V} {H : Hp} {Q : VK} {E : XK} {t : TS} {N : List Str} {m : Nat} (h : SpA pre A R vs H Q E) (hm : ∀ x, (A x).length = m)
    (hx : ∀ x, pre x → ∃ ρ, Ex (WofE E) t (st0 (A x) (N.length - m)) ((R x).out ρ)) : t { nx := fun _ H' => Q .non H', rt := Q } (L2.start N vs) H := by
  obtain ⟨x, G, L, hp, la, a, r⟩ := h
  obtain ⟨ρ, ex⟩ := hx x hp
  have hl : vs.length = m := by rw [allB_len a, hm]
  have sl := slots_start (N.length - m) a
  refine ex.run _ (show Stt G _ (L2.start N vs) L H from ⟨[], by unfold L2.start; rw [hl]; exact sl, la⟩) ?_
  cases hR : R x with
  | ok R' =>
    rw [hR] at r
    intro G' ρ' σ' H' v e s rv
    obtain ⟨G2, e2, l2⟩ := s.fin
    exact r G2 H' v (e.trans e2) l2 (R'.up e2 rv)
  | own O =>
    rw [hR] at r
    intro G' H' a cs e l ro
    exact r G' H' a cs e l ro
  | err C n =>
    rw [hR] at r
    intro G' σ' H' d e s hd
    obtain ⟨G2, e2, l2⟩ := s.fin
    exact r G2 H' d (e.trans e2) l2 hd
/-- a body that runs out: None -/
theorem SpA.runN {α : Type} {pre : α → Prop} {A : α → List Bw} {R : α → Res} {vs : List V} {H : Hp} {Q : VK} {E : XK} {t : TS} {N : List Str} {m : Nat} (h : SpA pre A R vs H Q E) (hm : ∀ x, (A x).length = m)
    (hx : ∀ x, pre x → ∃ ρ, (R x = .ok (dat .none) ∧ Ex (WofE E) t (st0 (A x) (N.length - m)) (.nx ρ)) ∨ Ex (WofE E) t (st0 (A x) (N.length - m)) ((R x).out ρ)) : t { nx := fun _ H' => Q .non H', rt := Q } (L2.start N vs) H := by
  obtain ⟨x, G, L, hp, la, a, r⟩ := h
  obtain ⟨ρ, ex⟩ := hx x hp
  rcases ex with ⟨hr, ex⟩ | ex
  · have hl : vs.length = m := by rw [allB_len a, hm]
    have sl := slots_start (N.length - m) a
    refine ex.run _ (show Stt G _ (L2.start N vs) L H from ⟨[], by unfold L2.start; rw [hl]; exact sl, la⟩) fun G' σ' H' e s => ?_
    rw [hr] at r
    obtain ⟨G2, e2, l2⟩ := s.fin
    exact r G2 H' .non (e.trans e2) l2 Dq.non
  · exact SpA.run (pre := fun y => y = x) (A := A) (R := R) (m := m) ⟨x, G, L, rfl, la, a, r⟩ hm fun y hy => ⟨ρ, by rw [hy]; exact ex⟩
section
variable {K : PySem.W.Frag} {W : WX} {ρ ρ' ρ1 : List Sl} {te ta tb : TE} {t u : TS} {tr : TA} {R : Rp} {B : Bw} {o : Out} {i : Nat} {α : Type} {pre : α → Prop} {A : α → List Bw} {F : α → Res} {E : XK} {C : Addr} {n : Int}
/-! ### calls -/
theorem ev_call (x : α) (ha : EvA tr ρ (A x)) (hp : pre x) (hR : F x = .ok R) : Ev (tCall (SpA pre A F) [] E tr) ρ (pu R) := Ev.pure fun {G σ L0 H} Q s q => ha.at s fun G1 H1 vs L e1 sl la r => by
  refine ⟨x, G1, L ++ L0, hp, la, by rw [List.append_nil]; exact r, ?_⟩
  rw [hR]
  exact fun G2 H2 v e2 l2 rv => q G2 H2 v (e1.trans e2) ⟨L, sl.up e2, l2⟩ rv
/-- a call that hands over a new list -/
theorem en_call {ds : List PyData} (x : α) (ha : EvA tr ρ (A x)) (hp : pre x) (hR : F x = .own (oL ds)) : EvN (tCall (SpA pre A F) [] E tr) ρ ds := ⟨fun {G σ L0 H} Q s q => ha.at s fun G1 H1 vs L e1 sl la r => by
  refine ⟨x, G1, L ++ L0, hp, la, by rw [List.append_nil]; exact r, ?_⟩
  rw [hR]
  intro G2 H2 a cs e2 l2 ro
  obtain ⟨ws, hcs, d⟩ := ro
  subst hcs
  have hne := l2.ne
  have eH : H2 = upd (fun b => if b = a then none else H2 b) a (.lst ws) := by
    funext b
    by_cases hb : b = a
    · rw [hb, upd_same]; exact (l2.on _ (List.mem_cons_self ..)).1
    · rw [upd_ne hb, if_neg hb]
  have l3 : Lay G2 (L ++ L0) (fun b => if b = a then none else H2 b) := by
    refine ⟨fun b hb => ?_, fun c hc => ?_, ?_⟩
    · by_cases h : b = a
      · rw [h, if_pos rfl]; exact ((l2.on _ (List.mem_cons_self ..)).2).symm
      · rw [if_neg h]
        refine l2.off b fun c hc => ?_
        rcases List.mem_cons.mp hc with z | z
        · subst z; exact fun z => h z.symm
        · exact hb c z
    · rw [if_neg (hne c hc)]; exact l2.on c (List.mem_cons_of_mem _ hc)
    · have := l2.nd
      rw [List.singleton_append, List.map_cons, List.nodup_cons] at this
      exact this.2
  rw [eH]
  exact q G2 _ a ws (e1.trans e2) ⟨L, sl.up e2, l3⟩ (if_pos rfl) d⟩
/-- an expression that raises -/
structure EvX (W : WX) (te : TE) (ρ : List Sl) (C : Addr) (n : Int) : Prop where
  run : ∀ {G : Hp} {σ : L2.St} {L0 : List Cell} {H : Hp} (Q : VK), Stt G ρ σ L0 H → (∀ G' H' d, Same G G' → Stt G' ρ σ L0 H' → H' d = none → W (.ref C) (some d) σ (upd H' d (atF n))) → te σ H Q
theorem ex_call (x : α) (ha : EvA tr ρ (A x)) (hp : pre x) (hR : F x = .err C n) : EvX (WofE E) (tCall (SpA pre A F) [] E tr) ρ C n := ⟨fun {G σ L0 H} Q s q => ha.at s fun G1 H1 vs L e1 sl la r => by
  refine ⟨x, G1, L ++ L0, hp, la, by rw [List.append_nil]; exact r, ?_⟩
  rw [hR]
  exact fun G2 H2 d e2 l2 hd => q G2 H2 d (e1.trans e2) ⟨L, sl.up e2, l2⟩ hd⟩
/-- in a try -/
theorem ev_callS {E : L2.St → XK} (x : α) (ha : EvA tr ρ (A x)) (hp : pre x) (hR : F x = .ok R) : Ev (tCallS (SpA pre A F) E tr) ρ (pu R) := Ev.pure fun {G σ L0 H} Q s q => ha.at s fun G1 H1 vs L e1 sl la r => by
  refine ⟨x, G1, L ++ L0, hp, la, r, ?_⟩
  rw [hR]
  exact fun G2 H2 v e2 l2 rv => q G2 H2 v (e1.trans e2) ⟨L, sl.up e2, l2⟩ rv
theorem ex_callS (x : α) (ha : EvA tr ρ (A x)) (hp : pre x) (hR : F x = .err C n) : EvX W (tCallS (SpA pre A F) (WE W) tr) ρ C n := ⟨fun {G σ L0 H} Q s q => ha.at s fun G1 H1 vs L e1 sl la r => by
  refine ⟨x, G1, L ++ L0, hp, la, r, ?_⟩
  rw [hR]
  exact fun G2 H2 d e2 l2 hd => q G2 H2 d (e1.trans e2) ⟨L, sl.up e2, l2⟩ hd⟩
theorem Ex.dropX (h : EvX W te ρ C n) : Ex W (tDrop te) ρ (.xc ρ C n) := ⟨fun D s q => h.run _ s fun G' H' d e s' hd => q G' _ H' d e s' hd⟩
theorem Ex.asgX {g : TG} (h : EvX W te ρ C n) : Ex W (tAsg te g) ρ (.xc ρ C n) := ⟨fun D s q => h.run _ s fun G' H' d e s' hd => q G' _ H' d e s' hd⟩
theorem Ex.retX (h : EvX W te ρ C n) : Ex W (tRet te) ρ (.xc ρ C n) := ⟨fun D s q => h.run _ s fun G' H' d e s' hd => q G' _ H' d e s' hd⟩
/-! ### errors with one field, at -/
/-- what __init__ of the errors promises -/
def spAt (K : PySem.W.Frag) : Sp := fun vs H Q _ => ∃ (a C : Addr) (n : Int), vs = [.ref a, .int n] ∧ OexC K C ∧ PySem.W.findIn K (.ref C) "at" = some none ∧ H a = some (exo a C none) ∧
  ∀ dx, H dx = none → dx ≠ a → Q .non (upd (upd H dx (exd dx [(("at" : Str), V.int n)])) a (exo a C (some dx)))
/-- self.at = at -/
theorem pure_at (vs : List V) (H : Hp) (Q : VK) (E : XK) (h : spAt K vs H Q E) : tOst K "at" (tVar 0) (tVar 1) { nx := fun _ H' => Q .non H', rt := Q } (L2.start ["self", "at"] vs) H := by
  obtain ⟨a, C, n, rfl, hC, hn, ha, q⟩ := h
  exact ⟨_, rfl, _, rfl, a, C, rfl, hC, hn, .inl ⟨ha, fun dx hd hne => q dx hd hne⟩⟩
/-- raise C(e) -/
theorem Ex.raise_ {tr : TA} (ha : EvA tr ρ [pu (dI n)]) (hC : OexC K C) (hn : PySem.W.findIn K (.ref C) "at" = some none) : Ex W (fun _ σ H => tMkO C (spAt K) [] tr σ H fun cls d H' => W cls d σ H') ρ (.xc ρ C n) := ⟨fun {G σ L0 H} D s q => ha.at s fun G1 H1 vs L e1 sl la r => by
  cases r with
  | cons h1 h2 =>
    cases h2; cases h1
    refine ⟨(by show 1 ≤ 1000; decide), fun a hA => ⟨a, C, n, rfl, hC, hn, upd_same, fun dx hd hne => ⟨rfl, dx, [(("at" : Str), V.int n)], upd_same, ?_, ?_, ?_⟩⟩⟩
    · rw [upd_ne hne, upd_same]
    · rw [upd_ne hne] at hd
      exact hd
    · rw [upd_ne hne] at hd
      have e : upd (del (upd (upd (upd H1 a (exo a C none)) dx (exd dx [(("at" : Str), V.int n)])) a (exo a C (some dx))) a) dx (.xd [(("at" : Str), V.int n)]) = upd H1 dx (atF n) := by
        funext b
        by_cases hb : b = dx
        · rw [hb, upd_same, upd_same]; rfl
        · rw [upd_ne hb, upd_ne hb]
          by_cases hba : b = a
          · rw [hba, del_same]; exact hA.symm
          · rw [del_ne hba, upd_ne hba, upd_ne hb, upd_ne hba]
      rw [e]
      exact q G1 σ H1 dx e1 ⟨L, sl, la⟩ hd⟩
/-! ### try .. except C as e -/
/-- the error that a suite holds: at a, its dict at d, its field -/
def errR (a d : Addr) (n : Int) : Rp := ⟨fun G v => v = .ref a ∧ G d = some (atF n), fun e h => ⟨h.1, e _ _ h.2⟩⟩
def noSlot (i : Nat) : Out → Out
  | .nx ρ => .nx (ρ.set i .x)
  | .bk ρ => .bk (ρ.set i .x)
  | .ct ρ => .ct (ρ.set i .x)
  | .go ρ => .go (ρ.set i .x)
  | o => o
theorem Stt.set_none {G H : Hp} {σ : L2.St} {L0 : List Cell} (s : Stt G ρ σ L0 H) (i : Nat) : ∃ G', Same G G' ∧ Stt G' (ρ.set i .x) (σ.set i none) L0 H := by
  have w : Wk ρ (ρ.set i .x) := by
    have : ∀ (ρ : List Sl) (i : Nat), Wk ρ (ρ.set i .x) := by
      intro ρ
      induction ρ with
      | nil => intro i; exact .nil
      | cons s ρ ih =>
        intro i
        cases i with
        | zero => exact .x (Wk.refl ρ)
        | succ i => exact .k (ih i)
    exact this ρ i
  obtain ⟨G', e, L, sl, la⟩ := s.weak w
  refine ⟨G', e, L, sl.agree (by simp) fun j hj => ?_, la⟩
  by_cases h : i = j
  · subst h
    by_cases hl : i < ρ.length
    · exact absurd (by simp [hl]) hj
    · have hlen : σ.length = ρ.length := s.len
      rw [List.getElem?_eq_none (by simp; omega), List.getElem?_eq_none (by omega)]
  · rw [List.getElem?_set_ne h]
end
end Z

set_option Elab.async false
set_option linter.all false
set_option maxRecDepth 100000
set_option maxHeartbeats 2000000
/-! Zf: try, what a suite asks of the error, instances, repr. -/
namespace Z
open PySem PySem.Spec PyProof.Rows L2
section
variable {K : PySem.W.Frag} {W : WX} {ρ ρ' ρ1 : List Sl} {te ta tb : TE} {t u : TS} {tr : TA} {R : Rp} {B : Bw} {o : Out} {i : Nat} {α : Type} {pre : α → Prop} {A : α → List Bw} {F : α → Res} {E : XK} {C : Addr} {n : Int}
def Out.quiet : Out → Bool
  | .xc _ _ _ => false
  | _ => true
theorem Post.anyW {W W' : WX} {D : Ends} {G : Hp} {L0 : List Cell} {o : Out} (h : o.quiet = true) (q : Post W D G L0 o) : Post W' D G L0 o := by
  cases o with
  | xc _ _ _ => cases h
  | nx _ => exact q
  | bk _ => exact q
  | ct _ => exact q
  | go _ => exact q
  | rt _ => exact q
  | ro _ => exact q
/-- the body raises nothing -/
theorem Ex.try_ok {c : Value} {ts : Addr → Value → Option Addr → TS} {tb : WX → TS} (h : ∀ W, Ex W (tb W) ρ o) (hq : o.quiet = true) : Ex W (fun D σ H => tb (wAs K c i ts W D) D σ H) ρ o :=
  ⟨fun D s q => (h _).run D s (q.anyW hq)⟩
theorem Post.slot {D : Ends} {G : Hp} {L0 : List Cell} (q : Post W D G L0 (noSlot i o)) : Post W { nx := fun σ' H' => D.nx (σ'.set i none) H', rt := D.rt, bk := fun σ' H' => D.bk (σ'.set i none) H', ct := fun σ' H' => D.ct (σ'.set i none) H' } G L0 o := by
  have key : ∀ {N : L2.St → Hp → Prop} {ρ : List Sl}, Nx N G L0 (ρ.set i .x) → Nx (fun σ' H' => N (σ'.set i none) H') G L0 ρ := fun {N ρ} k G' σ' H' e s => by
    obtain ⟨G2, e2, s2⟩ := s.set_none i
    exact k G2 _ H' (e.trans e2) s2
  cases o with
  | xc _ _ _ => exact q
  | nx _ => exact key q
  | bk _ => exact key q
  | ct _ => exact key q
  | go _ => exact ⟨key q.1, key q.2⟩
  | rt _ => exact q
  | ro _ => exact q
/-- the body raises an error of the class at C, which the clause takes -/
theorem Ex.try_x {c : Value} {ts : Addr → Value → Option Addr → TS} {tb : WX → TS} (h : ∀ W, Ex W (tb W) ρ (.xc ρ1 C n)) (hm : PySem.W.exmOne K (.ref C) c = some true)
    (hs : ∀ a d, Ex W (ts a (.ref C) (some d)) (ρ1.set i (.p (errR a d n))) o) : Ex W (fun D σ H => tb (wAs K c i ts W D) D σ H) ρ (noSlot i o) :=
  ⟨fun D s q => (h _).run D s fun G' σ' H' d e s' hd => ⟨true, hm, fun _ a ha => by
    have g := s'.grow (o := atF n) hd
    obtain ⟨G2, e2, s2⟩ := g.2.set_p (R := errR a d n) ⟨rfl, upd_same⟩ i
    exact (hs a d).run _ s2 (q.slot.mono ((e.trans g.1).trans e2)), fun z => nomatch z⟩⟩
/-! isinstance(e, C), e.at -/
/-- isinstance of the error that a suite holds, the class told in the reading -/
def rIsX (K : PySem.W.Frag) (a : Addr) (cls : Value) (d : Option Addr) : List V → Hp → VK → Prop := fun xs H Q => ∃ (C dd : Addr) (fs : List (Str × V)) (D : Addr) (b : Bool), cls = .ref C ∧ d = some dd ∧ ExcC K C ∧ H dd = some (.xd fs) ∧ xs = [.ref a, .ref D] ∧
  PySem.W.kitOne K (.ref C) (.ref D) = some b ∧ Q (.bl b) H
theorem call_isX {X : Cx} {a : Addr} {oe : Obj} {cls : Value} {d : Option Addr} {pn : List (Addr × Obj)} (hz : Zc cls d oe) (hf : ∃ vs, oe.data = .fields vs) : CallR (X.suite a ((a, oe) :: pn)) (.builtin "isinstance") (rIsX X.K a cls d) := by
  intro pins s σ H xs us Q inv r h
  obtain ⟨C, dd, fs, D, b, rfl, rfl, hC, hdd, rfl, hk, q⟩ := h
  cases r with
  | cons r1 r2 =>
    cases r2 with
    | cons r2 r3 =>
      cases r3; cases r1; cases r2
      have ho := (inv.pin (a, oe) (List.mem_append_left _ (List.mem_cons_self ..))).1
      obtain ⟨vs, hv⟩ := hf
      obtain ⟨mA, hns, _⟩ := (show ObjOk X.prog X.w H s.heap dd (.xd fs) from inv.hok dd _ hdd)
      obtain ⟨od, hod, _⟩ := lookIn_ns hns
      have inst : PySem.W.InstAt s.heap a oe C (some od) := ⟨ho, hz.1, by unfold PySem.W.notCls; rw [hv] <;> rfl, by rw [hz.2]; exact hod⟩
      have hcl : (PySem.W.clsIn X.K C).isSome = true := by
        have z := hC.hd
        unfold PySem.W.hasDictIn at z
        cases e : PySem.W.clsIn X.K C with
        | none => rw [e] at z; cases z
        | some _ => rfl
      exact PySem.W.kia_one (PySem.W.kitx_exc hcl hC.hg hC.hk hC.hs hC.ha hC.hn hC.ht hC.hm) inv.kIn inst hk (fun z => nomatch z) fun tk => ⟨.bl b, H, inv.kept (t' := tk) fun _ _ z => z, rfl, q⟩
/-- e.f of the error that a suite holds, its class told in the reading; e a name -/
def tXg (K : PySem.W.Frag) (a : Addr) (cls : Value) (d : Option Addr) (f : Str) (i : Nat) : TE := fun σ H Q => ∃ (C dd : Addr) (fs : List (Str × V)) (v : V), σ[i]? = some (some (.ref a)) ∧ cls = .ref C ∧ d = some dd ∧ XfC K C ∧
  PySem.W.findIn K (.ref C) f = some none ∧ H dd = some (.xd fs) ∧ fs.lookup f = some v ∧ Q v H
theorem pe_xg {X : Cx} {a : Addr} {oe : Obj} {cls : Value} {d : Option Addr} {pn : List (Addr × Obj)} {x n : Str} {i : Nat} {pos pos' : Pos} (hz : Zc cls d oe) (hf : ∃ vs, oe.data = .fields vs) (he : PE (X.suite a ((a, oe) :: pn)) (.Name x pos') (tVar i))
    (hb : attributeBase (.Name x pos') n X.env (eval (.Name x pos') X.env) = eval (.Name x pos') X.env := by rfl) : PE (X.suite a ((a, oe) :: pn)) (.Attribute (.Name x pos') n pos) (tXg X.K a cls d n i) := by
  refine ⟨fun pins s σ H Q inv h => ?_⟩
  obtain ⟨C, dd, fs, v, hs, rfl, rfl, hC, hno, hdd, hl, q⟩ := h
  exact (pe_xf (C := C) (n := n) hC hno hz hf he hb).run pins s σ H Q inv ⟨_, hs, rfl, rfl, dd, fs, v, rfl, hdd, hl, q⟩
theorem ev_at {a d : Addr} (hi : ρ[i]? = some (.p (errR a d n))) (hC : XfC K C) (hn : PySem.W.findIn K (.ref C) "at" = some none) : Ev (tXg K a (.ref C) (some d) "at" i) ρ (pu (dI n)) := Ev.pure fun {G σ L0 H} Q s q => by
  obtain ⟨v, e, rfl, hd⟩ := s.get_p hi
  refine ⟨C, d, _, .int n, e, rfl, rfl, hC, hn, s.same _ _ hd, by rfl, q _ _ _ (Same.refl _) s (Dq.int n)⟩
/-- the class a name stands for -/
def clsR (C : Addr) : Rp := ⟨fun _ v => v = .ref C, fun _ h => h⟩
theorem ev_cls : Ev (tC (.ref C)) ρ (pu (clsR C)) := Ev.pure fun Q s q => q _ _ _ (Same.refl _) s rfl
theorem ev_isX {a d : Addr} {D : Addr} {b : Bool} (hi : ρ[i]? = some (.p (errR a d n))) (hC : ExcC K C) (hk : PySem.W.kitOne K (.ref C) (.ref D) = some b) : Ev (tCB (rIsX K a (.ref C) (some d)) (tCons (tVar i) (tCons (tC (.ref D)) tNil))) ρ (pu (dB b)) := Ev.pure fun {G σ L0 H} Q s q => by
  obtain ⟨v, e, rfl, hd⟩ := s.get_p hi
  exact ⟨_, e, C, d, _, D, b, rfl, rfl, hC, s.same _ _ hd, rfl, hk, q _ _ _ (Same.refl _) s (Dq.bl b)⟩
/-! ### instances -/
inductive Flds (G : Hp) : List (Str × V) → List (Str × Rp) → Prop
  | nil : Flds G [] []
  | cons {f : Str} {v : V} {R : Rp} {fv fs} : R.p G v → Flds G fv fs → Flds G ((f, v) :: fv) ((f, R) :: fs)
theorem Flds.up {G G' : Hp} (e : Same G G') : ∀ {fv fs}, Flds G fv fs → Flds G' fv fs
  | _, _, .nil => .nil
  | _, _, .cons h t => .cons (Rp.up _ e h) (t.up e)
theorem Flds.get {G : Hp} {f : Str} {R : Rp} : ∀ {fv fs}, Flds G fv fs → fs.lookup f = some R → ∃ v, fv.lookup f = some v ∧ R.p G v
  | _, _, .nil, h => by cases h
  | _, _, .cons (f := g) (v := v) (R := R') (fs := fs) q t, h => by
    unfold List.lookup at h ⊢
    cases e : f == g with
    | true =>
      rw [e] at h
      cases h
      exact ⟨v, rfl, q⟩
    | false =>
      rw [e] at h
      exact t.get h
theorem Flds.no {G : Hp} {f : Str} : ∀ {fv fs}, Flds G fv fs → fs.lookup f = none → fv.lookup f = none
  | _, _, .nil, _ => rfl
  | _, _, .cons (f := g) (fs := fs) q t, h => by
    unfold List.lookup at h ⊢
    cases e : f == g with
    | true => rw [e] at h; cases h
    | false =>
      rw [e] at h
      exact t.no h
/-- an instance that stays -/
def insR (C : Addr) (fs : List (Str × Rp)) : Rp := ⟨fun G v => ∃ a dx fv, v = .ref a ∧ G a = some (.ins C dx fv) ∧ Flds G fv fs, fun e h => by
  obtain ⟨a, dx, fv, h1, h2, h3⟩ := h
  exact ⟨a, dx, fv, h1, e _ _ h2, h3.up e⟩⟩
/-- an instance that is being made -/
def oI (C a : Addr) (fs : List (Str × Rp)) : Op := ⟨fun G b cs => ∃ dx fv, b = a ∧ cs = [(a, HO.ins C dx fv)] ∧ Flds G fv fs, fun e h => by
  obtain ⟨dx, fv, h0, h1, h3⟩ := h
  exact ⟨dx, fv, h0, h1, h3.up e⟩⟩
theorem ev_fld {f : Str} {fs : List (Str × Rp)} (h : Ev te ρ (pu (insR C fs))) (hf : fs.lookup f = some R) (c : Cls K C) (hn : NoAttr K C f) : Ev (tFld K te f) ρ (pu R) := Ev.pure fun {G σ L0 H} Q s q => h.atp s fun G1 H1 v e1 s1 r => by
  obtain ⟨a, dx, fv, rfl, ha, hfl⟩ := r
  obtain ⟨w, hw, rw⟩ := hfl.get hf
  exact ⟨a, C, dx, fv, w, rfl, s1.same _ _ ha, c, hn, hw, q G1 H1 w e1 s1 rw⟩
/-- self.f = e in an __init__, self in slot i -/
theorem putF_new {f : Str} {v : V} : ∀ {fv : List (Str × V)}, fv.lookup f = none → putF f v fv = fv ++ [(f, v)]
  | [], _ => rfl
  | (g, w) :: fv, h => by
    unfold List.lookup at h
    cases e : f == g with
    | true => rw [e] at h; cases h
    | false =>
      rw [e] at h
      have hne : ¬ g = f := fun z => by rw [z] at e; simp at e
      show (if g = f then _ else _) = _
      rw [if_neg hne, putF_new h]
      rfl
theorem flds_app {G : Hp} {f : Str} {v : V} {R : Rp} (r : R.p G v) : ∀ {fv fs}, Flds G fv fs → Flds G (fv ++ [(f, v)]) (fs ++ [(f, R)])
  | _, _, .nil => .cons r .nil
  | _, _, .cons q t => .cons q (flds_app r t)
theorem flds_len {G : Hp} : ∀ {fv fs}, Flds G fv fs → fv.length = fs.length
  | _, _, .nil => rfl
  | _, _, .cons _ t => by simp [flds_len t]
theorem Ex.setfld {a : Addr} {f : Str} {fs : List (Str × Rp)} (hi : ρ[i]? = some (.o (oI C a fs))) (he : Ev te ρ (pu R)) (hf : fs.lookup f = none) (hz : fs.length < 1000) (c : Cls K C) (hn : NoAttr K C f) : Ex W (sFld K (tVar i) te f) ρ (.nx (ρ.set i (.o (oI C a (fs ++ [(f, R)]))))) := ⟨fun {G σ L0 H} D s q => he.atp s fun G1 H1 v e1 s1 r => by
  obtain ⟨a', cs, e, ⟨dx, fv, ha, hcs, hfl⟩, hh, k1, _⟩ := s1.get_o hi
  subst hcs ha
  refine ⟨_, e, _, C, dx, fv, rfl, hh _ (List.mem_cons_self ..), c, hn, by rw [flds_len hfl]; exact hz, ?_⟩
  rw [putF_new (hfl.no hf)]
  exact q G1 _ _ e1 (k1 (oI C _ (fs ++ [(f, R)])) [(_, .ins C dx (fv ++ [(f, v)]))] _ ⟨dx, _, rfl, rfl, flds_app r hfl⟩ fun M l => l.store)⟩
end
/-- what __init__ promises: fields F, or an error; its further arguments by A -/
inductive IRes where
  | ok (fs : List (Str × Rp)) | err (C : Addr) (n : Int)
def SpI {α : Type} (C : Addr) (pre : α → Prop) (A : α → List Bw) (F : α → IRes) : Sp := fun vs H Q E => ∃ x G L a dx ws, pre x ∧ vs = V.ref a :: ws ∧ Lay G ((a, HO.ins C dx []) :: L) H ∧ AllB G L ws (A x) ∧
  match F x with
  | .ok fs => ∀ G' H' dx fv, Same G G' → Lay G' ((a, HO.ins C dx fv) :: L) H' → Flds G' fv fs → Q .non H'
  | .err D n => ∀ G' H' d, Same G G' → Lay G' L H' → H' d = none → E (.ref D) (some d) (upd H' d (atF n))
section
variable {K : PySem.W.Frag} {W : WX} {ρ ρ' ρ1 : List Sl} {te ta tb : TE} {t u : TS} {tr : TA} {R : Rp} {B : Bw} {o : Out} {i : Nat} {α : Type} {pre : α → Prop} {A : α → List Bw} {F : α → IRes} {E : XK} {C D : Addr} {n : Int}
theorem SpI.len {m : Nat} (h : ∀ x, (A x).length = m) : ∀ vs H Q E, SpI C pre A F vs H Q E → vs.length = m + 1 := fun vs H Q E ⟨x, G, L, a, dx, ws, _, e, _, al, _⟩ => by
  rw [e, List.length_cons, allB_len al, h]
def stI (C a : Addr) (Bs : List Bw) (k : Nat) : List Sl := .o (oI C a []) :: (Bs.map Sl.b ++ List.replicate k Sl.x)
theorem SpI.run {vs : List V} {H : Hp} {Q : VK} {t : TS} {N : List Str} {m : Nat} (h : SpI C pre A F vs H Q E) (hm : ∀ x, (A x).length = m)
    (hx : ∀ x a, pre x → (∃ fs ρ, F x = .ok fs ∧ ρ[0]? = some (.o (oI C a fs)) ∧ Ex (WofE E) t (stI C a (A x) (N.length - (m + 1))) (.nx ρ)) ∨
      ∃ D n ρ, F x = .err D n ∧ Ex (WofE E) t (stI C a (A x) (N.length - (m + 1))) (.xc ρ D n)) : t { nx := fun _ H' => Q .non H', rt := Q } (L2.start N vs) H := by
  obtain ⟨x, G, L, a, dx, ws, hp, rfl, la, al, r⟩ := h
  have hl : ws.length = m := by rw [allB_len al, hm]
  have sl : Slots G L (L2.start N (V.ref a :: ws)) (stI C a (A x) (N.length - (m + 1))) [(a, HO.ins C dx [])] := by
    unfold L2.start
    rw [List.length_cons, hl]
    exact .o (O := oI C a []) (cs := [(a, HO.ins C dx [])]) ⟨dx, [], rfl, rfl, .nil⟩ (slots_start _ al)
  have st : Stt G (stI C a (A x) (N.length - (m + 1))) (L2.start N (V.ref a :: ws)) L H := ⟨_, sl, la⟩
  rcases hx x a hp with ⟨fs, ρ, hF, h0, ex⟩ | ⟨D, n, ρ, hF, ex⟩
  · rw [hF] at r
    refine ex.run _ st fun G' σ' H' e s => ?_
    obtain ⟨L', sl', la'⟩ := id s
    obtain ⟨a', cs, M, e1, ⟨dx', fv, ha, hcs, hfl⟩, pm, _⟩ := sl'.get_o h0
    subst ha hcs
    have l2 : Lay G' (M ++ ([(_, HO.ins C dx' fv)] ++ L)) H' := la'.perm (by
      refine (pm.append_right L).trans ?_
      rw [List.append_assoc]
      exact perm_swap _ _ _)
    obtain ⟨G2, e2, l3, _⟩ := l2.freezeAll
    exact r G2 H' dx' fv (e.trans e2) l3 (hfl.up e2)
  · rw [hF] at r
    refine ex.run _ st fun G' σ' H' d e s hd => ?_
    obtain ⟨G2, e2, l2⟩ := s.fin
    exact r G2 H' d (e.trans e2) l2 hd
/-- C(..) -/
theorem ev_make {fs : List (Str × Rp)} (x : α) (ha : EvA tr ρ (A x)) (hp : pre x) (hF : F x = .ok fs) : Ev (tMake C (SpI C pre A F) [] E tr) ρ (pu (insR C fs)) := Ev.pure fun {G σ L0 H} Q s q => ha.at s fun G1 H1 vs L e1 sl la r => fun y dx hy hd hne => by
  have g := same_upd (o := .own y) (la.freshG hd)
  have l1 : Lay (upd G1 dx (.own y)) (L ++ L0) (upd H1 dx (.own y)) := la.grow hd
  have hy1 : upd H1 dx (.own y) y = none := by rw [upd_ne (fun z => hne z.symm)]; exact hy
  have ab : ∀ {vs : List V} {Bs : List Bw}, AllB G1 (L ++ L0) vs Bs → AllB (upd G1 dx (.own y)) (L ++ L0) vs Bs := fun {vs Bs} h => by
    induction h with
    | nil => exact .nil
    | cons h _ ih => exact .cons (Bw.up _ g (fun _ z => z) h) ih
  refine ⟨x, upd G1 dx (.own y), L ++ L0, y, dx, vs, hp, by rw [List.append_nil], l1.cell hy1, ab r, ?_⟩
  rw [hF]
  refine fun G' H' dx' fv e2 l2 hfl => ⟨rfl, ?_⟩
  have hG : G' y = none := (l2.on _ (List.mem_cons_self ..)).2
  have e3 := same_upd (o := HO.ins C dx' fv) hG
  exact q _ H' (.ref y) ((e1.trans (g.trans e2)).trans e3) ⟨L, sl.up ((g.trans e2).trans e3), l2.freeze⟩ ⟨y, dx', fv, rfl, upd_same, hfl.up e3⟩
theorem ex_make (x : α) (ha : EvA tr ρ (A x)) (hp : pre x) (hF : F x = .err D n) : EvX (WofE E) (tMake C (SpI C pre A F) [] E tr) ρ D n := ⟨fun {G σ L0 H} Q s q => ha.at s fun G1 H1 vs L e1 sl la r => fun y dx hy hd hne => by
  have g := same_upd (o := .own y) (la.freshG hd)
  have l1 : Lay (upd G1 dx (.own y)) (L ++ L0) (upd H1 dx (.own y)) := la.grow hd
  have hy1 : upd H1 dx (.own y) y = none := by rw [upd_ne (fun z => hne z.symm)]; exact hy
  have ab : ∀ {vs : List V} {Bs : List Bw}, AllB G1 (L ++ L0) vs Bs → AllB (upd G1 dx (.own y)) (L ++ L0) vs Bs := fun {vs Bs} h => by
    induction h with
    | nil => exact .nil
    | cons h _ ih => exact .cons (Bw.up _ g (fun _ z => z) h) ih
  refine ⟨x, upd G1 dx (.own y), L ++ L0, y, dx, vs, hp, by rw [List.append_nil], l1.cell hy1, ab r, ?_⟩
  rw [hF]
  exact fun G' H' d e2 l2 hd' => q G' H' d (e1.trans (g.trans e2)) ⟨L, sl.up (g.trans e2), l2⟩ hd'⟩
/-- o.m(..) -/
theorem ev_meth {A : α → List Bw} {F : α → Res} {fs : List (Str × Rp)} {m : Str} {B0 : α → Bw} (x : α) (h0 : Ev te ρ (pu (insR C fs))) (hm : fs.lookup m = none) (ha : EvA tr ρ (A x)) (hB : ∀ G L v, (insR C fs).p G v → (B0 x).p G L v) (hp : pre x) (hR : F x = .ok R) :
    Ev (tMeth C m (SpA pre (fun x => B0 x :: A x) F) [] E te tr) ρ (pu R) := Ev.pure fun {G σ L0 H} Q s q => h0.atp s fun G0 H0 v e0 s0 r0 => by
  obtain ⟨a, dx, fv, rfl, hH, hfl⟩ := id r0
  refine ⟨a, dx, fv, rfl, s0.same _ _ hH, hfl.no hm, ?_⟩
  refine ha.at s0 fun G1 H1 vs L e1 sl la r => ?_
  refine ⟨x, G1, L ++ L0, hp, la, by rw [List.append_nil]; exact .cons (hB _ _ _ ((insR C fs).up e1 r0)) r, ?_⟩
  rw [hR]
  exact fun G2 H2 v e2 l2 rv => q G2 H2 v ((e0.trans e1).trans e2) ⟨L, sl.up e2, l2⟩ rv
theorem en_meth {A : α → List Bw} {F : α → Res} {fs : List (Str × Rp)} {m : Str} {B0 : α → Bw} {ds : List PyData} (x : α) (h0 : Ev te ρ (pu (insR C fs))) (hm : fs.lookup m = none) (ha : EvA tr ρ (A x)) (hB : ∀ G L v, (insR C fs).p G v → (B0 x).p G L v) (hp : pre x) (hR : F x = .own (oL ds)) :
    EvN (tMeth C m (SpA pre (fun x => B0 x :: A x) F) [] E te tr) ρ ds := ⟨fun {G σ L0 H} Q s q => h0.atp s fun G0 H0 v e0 s0 r0 => by
  obtain ⟨a, dx, fv, rfl, hH, hfl⟩ := id r0
  refine ⟨a, dx, fv, rfl, s0.same _ _ hH, hfl.no hm, ?_⟩
  refine ha.at s0 fun G1 H1 vs L e1 sl la r => ?_
  refine ⟨x, G1, L ++ L0, hp, la, by rw [List.append_nil]; exact .cons (hB _ _ _ ((insR C fs).up e1 r0)) r, ?_⟩
  rw [hR]
  intro G2 H2 a2 cs e2 l2 ro
  obtain ⟨ws, hcs, d⟩ := ro
  subst hcs
  obtain ⟨H3, hn3, rfl, l3⟩ := Lay.uncell l2
  exact q G2 H3 _ ws ((e0.trans e1).trans e2) ⟨L, sl.up e2, l3⟩ hn3 d⟩
theorem ex_meth {A : α → List Bw} {F : α → Res} {fs : List (Str × Rp)} {m : Str} {B0 : α → Bw} (x : α) (h0 : Ev te ρ (pu (insR C fs))) (hm : fs.lookup m = none) (ha : EvA tr ρ (A x)) (hB : ∀ G L v, (insR C fs).p G v → (B0 x).p G L v) (hp : pre x) (hR : F x = .err D n) :
    EvX (WofE E) (tMeth C m (SpA pre (fun x => B0 x :: A x) F) [] E te tr) ρ D n := ⟨fun {G σ L0 H} Q s q => h0.atp s fun G0 H0 v e0 s0 r0 => by
  obtain ⟨a, dx, fv, rfl, hH, hfl⟩ := id r0
  refine ⟨a, dx, fv, rfl, s0.same _ _ hH, hfl.no hm, ?_⟩
  refine ha.at s0 fun G1 H1 vs L e1 sl la r => ?_
  refine ⟨x, G1, L ++ L0, hp, la, by rw [List.append_nil]; exact .cons (hB _ _ _ ((insR C fs).up e1 r0)) r, ?_⟩
  rw [hR]
  exact fun G2 H2 d e2 l2 hd => q G2 H2 d ((e0.trans e1).trans e2) ⟨L, sl.up e2, l2⟩ hd⟩
end
end Z

set_option Elab.async false
set_option linter.all false
set_option maxRecDepth 100000
set_option maxHeartbeats 2000000
/-! Zg: calls that may raise within a try, repr, the law's own call. -/
namespace Z
open PySem PySem.Spec PyProof.Rows L2
theorem pass_no {X : Cx} : Passes (L2.CX X.prog X.w) X (fun _ _ _ => False) := fun pins σ H s e s' inv c => by
  obtain ⟨a, B, H', cls, d, _, _, _, _, _, _, _, z⟩ := c
  exact z.elim
section
variable {X : Cx} {CX : CXT} {k : Nat} {f C : Addr} {fd : FuncData} {ps : List Str} {sp : Sp} {E : L2.St → XK} {x m : Str} {p pos apos : Pos} {e o : Expr} {es : List Expr} {ta : TE} {t : TA}
/-- C(..) in a try: what is raised is wished for at the slots of the call -/
def tMakeS (C : Addr) (sp : Sp) (E : L2.St → XK) (t : TA) : TE := fun σ H Q => t σ H fun vs H1 => ∀ y dy, H1 y = none → H1 dy = none → dy ≠ y → sp (.ref y :: vs) (upd (upd H1 dy (.own y)) y (.ins C dy [])) (fun v H2 => v = .non ∧ Q (.ref y) H2) (E σ)
theorem pe_makeS (M : Mk X.K C f) (F : FnOk X.prog X.w X.K X.mg X.base CX k f fd ps sp) (hr : Room (k + 1) X.A) (hg : Gl X x) (hm : X.mg x = some (.ref C)) (hb : Binds X.K fd ps []) (hx : ∀ σ, PassesAt CX X σ (E σ))
    (ha : PA X (e :: es) t) (hdb : (x == ("__debug__" : Str)) = false := by decide) (he : starEach (e :: es) X.env = (false, eval e X.env) :: starEach es X.env := by rfl) (hpl : (backTo pos (starEach es X.env)).any (·.1) = false := by rfl) :
    PE X (.Call (.Name x p) (e :: es) [] pos) (tMakeS C sp E t) := by
  refine ⟨fun pins s σ H Q inv h => wpAny_Call_Name_kw (ld_glob inv hg hm ?_ hdb)⟩
  refine PySem.W.callWith_K (h₀ := X.base) inv.ok.mod.kin M.kp (thn (ha.run pos pins s σ H _ inv h) fun us s1 got => ?_) he hpl
  obtain ⟨vs, H1, J, r, q⟩ := got
  refine ⟨J.kIn, ?_⟩
  let n := s1.heap.objs.size
  have hq := q (n + 1) n (J.hok.fresh (Nat.le_succ _)) (J.hok.fresh (Nat.le_refl _)) (Nat.ne_of_lt (Nat.lt_succ_self _))
  have J2 := Inv.made (C := C) J
  have hlen : (Value.ref (n + 1) :: us).length = ps.length := by
    have e1 : (V.ref (n + 1) :: vs).length = ps.length := F.len _ _ _ _ hq
    rw [List.length_cons, ← r.length]
    rw [List.length_cons] at e1
    exact e1
  have bind := hb _ (Value.ref (n + 1) :: us) J2.kIn (by rw [List.append_nil]; exact hlen)
  rw [List.append_nil] at bind
  have rel : Vals (V.ref (n + 1) :: vs) (Value.ref (n + 1) :: us) := .cons rfl r
  have go := F.run _ X.stack _ _ ⟨Value.ref (n + 1) :: us, []⟩ _ _ _ (E σ) (hr.make C us []) (J2.env0.make C us []) bind rel hq
  refine wpAny_call (make_map (f := f) J.kIn M.makes M.init (beq_iff_eq.mp M.fn) (codeAny_mono go fun res s' hres => ?_))
  match res, hres with
  | .error ex, hres => exact hx σ pins _ _ ex s' J2 hres
  | .ok (.ret u), hres =>
    obtain ⟨v, H', J3, rv, ev, q3⟩ := J2.after hres
    subst ev
    exact ⟨rv, V.ref (n + 1), H', J3, rfl, q3⟩
  | .ok .next, hres => exact hres.elim
  | .ok .brk, hres => exact hres.elim
  | .ok .cont, hres => exact hres.elim
/-- o.m(..) in a try -/
def tMethSx (C : Addr) (m : Str) (sp : Sp) (E : L2.St → XK) (ta : TE) (t : TA) : TE := fun σ H Q => ta σ H fun x H1 => ∃ a dx fs, x = .ref a ∧ H1 a = some (.ins C dx fs) ∧ fs.lookup m = none ∧ t σ H1 fun vs H2 => sp (x :: vs) H2 Q (E σ)
theorem pe_methSx {pl : Sem Bool} (ho : PE X o ta) (c : Cls X.K C) (hm : Meth X.K C m f) (F : FnOk X.prog X.w X.K X.mg X.base CX k f fd ps sp) (hr : Room k X.A) (hb : Binds X.K fd ps []) (hx : ∀ σ, PassesAt CX X σ (E σ)) (ha : PA X (e :: es) t)
    (he : starEach (e :: es) X.env = (false, eval e X.env) :: starEach es X.env := by rfl) (hpl : (backTo pos (starEach es X.env)).any (·.1) = false := by rfl)
    (ht : eval (.Call (.Attribute o m apos) (e :: es) [] pos) X.env = (do
      let w ← eval o X.env
      standAt apos.atName
      let (g, first) ← holding [w] (getMethod w m pl)
      callWith pos g first (backTo pos (starEach (e :: es) X.env)) (backToKw pos (keywordEach [] X.env))) := by rfl) :
    PE X (.Call (.Attribute o m apos) (e :: es) [] pos) (tMethSx C m sp E ta t) := by
  refine ⟨fun pins s σ H Q inv h => PySem.W.methodCall_KW (pl := pl) (thn (ho.run pins s σ H _ inv h) fun u s1 got => ?_) ht⟩
  obtain ⟨x, H1, J, rx, a, dx, fs, rfl, hHa, hl, q⟩ := got
  cases rx
  refine getmeth_ok J hHa c hm hl ?_
  refine PySem.W.callWith_K (first := [.ref a]) (h₀ := X.base) J.ok.mod.kin hm.kp (thn (ha.run pos pins s1 σ H1 _ J q) fun us s2 got => ?_) he hpl
  obtain ⟨vs, H2, J2, r, q2⟩ := got
  exact ⟨J2.kIn, run_fnS (us := .ref a :: us) (vs := .ref a :: vs) F hr hb (hx σ) J2 (.cons rfl r) q2⟩
/-- repr of data, where no repr is under way -/
abbrev cRepr : List V → Hp → VK → Prop := fun xs H Q => ∃ a d, xs = [.ref a] ∧ Dq H (.ref a) d ∧ d.showable = true ∧ d.hasDict = false ∧ d.depth ≤ 60 ∧ d.shown.length ≤ sizeLine ∧ Q (.str d.shown) H
theorem call_repr (hgd : X.A.guards = some []) (hu : X.A.units + 70 < cLine) : CallR X (.builtin "repr") cRepr := by
  intro pins s σ H xs us Q inv r h
  obtain ⟨a, d, rfl, hd, h1, h2, h3, h4, q⟩ := h
  cases r with
  | cons r1 r2 =>
    cases r2; cases r1
    obtain ⟨as, rd⟩ := L2.Dp.reads inv d _ _ (dq_dp (K := X.K) hd) rfl
    refine repr_of_reads' rd h1 (fun z => by rw [h2] at z; cases z) hgd (by omega) (fun _ _ e => e) (fun h' u tk hk => ?_) h4
    exact ⟨.str d.shown, H, inv.kept (t' := tk) hk, ⟨u, rfl⟩, q⟩
end
/-! ### the law's own call: nothing runs around it -/
/-- a def's promise where the law is called -/
def RunAt (P : Program) (w : World) (K : PySem.W.Frag) (mg : Str → Option Value) (base : Heap) (CX : CXT) (k : Nat) (f : Addr) (fd : FuncData) (ps : List Str) (sp : Sp) : Prop :=
  ∀ (s : Shared) (H : Hp) (args : Args) (us : List Value) (vs : List V) (Q : VK) (E : XK), Room k callerA → Env0 P w K mg base callerA [] s H → BindsTo s fd args (ps.zip us) → Vals vs us → sp vs H Q E →
    codeAny (model P w) callerA (.call (.ref f) args) (CR CX [] P w H s Q E) s
/-- the script, where it is no object of the text: known to its object -/
def scriptH (K : PySem.W.Frag) (a : Addr) (o : Obj) (xs : List V) : Hp := fun b => if b = a ∧ K.lookup a = none then some (.frz o (.lst xs)) else none
theorem run_law {P : Program} {w : World} {K : PySem.W.Frag} {mg mb : Str → Option Value} {CX : CXT} {k : Nat} {f a : Addr} {fd : FuncData} {x : Str} {sp : Sp} {s : Shared} {us : List Value} {ns : List Int}
    (kin : K.In s.heap) (glob : s.heap.Ns mainGlobals mg) (blt : s.heap.Ns builtinsNs mb) (bltIs : ∀ x : Str, x ≠ "__name__" → mb x = bootBuiltins x) (lim : s.heap.NoLimit) (gens : s.gens = #[])
    (there : s.heap.get? a = some { cls := .type "list", data := .seq us.toArray }) (isInts : IntsAre us ns) (small : ns.length ≤ sizeLine) (hr : Room k callerA)
    (F : ∀ base : Heap, K.In base → base.Ns mainGlobals mg → RunAt P w K mg base CX k f fd [x] sp) (binds : ∀ (s : Shared) (u : Value), BindsTo s fd ⟨[u], []⟩ [(x, u)])
    (hsp : ∀ H : Hp, SqL K H a (ns.map V.int) → sp [.ref a] H (fun v _ => v = .bl true) fun _ _ _ => False) (hCX : ∀ H e s', CX [] H s (fun _ _ _ => False) e s' → False) :
    codeAny (model P w) callerA (.call (.ref f) ⟨[.ref a], []⟩) (fun r s' => r = .ok (.ret (.bool true)) ∧ OldK s.heap s'.heap ∧ s'.os = s.os ∧ AllBare s'.gens) s := by
  have rel : Vals (ns.map V.int) us := vals_ints isInts
  have lenU : us.length = ns.length := isInts.length
  let o : Obj := { cls := .type "list", data := .seq us.toArray }
  let H := scriptH K a o (ns.map V.int)
  have Hat : ∀ b u, H b = some u → b = a ∧ K.lookup a = none ∧ u = .frz o (.lst (ns.map V.int)) := fun b u e => by
    have e : (if b = a ∧ K.lookup a = none then some (HO.frz o (.lst (ns.map V.int))) else none) = some u := e
    by_cases h : b = a ∧ K.lookup a = none
    · rw [if_pos h] at e
      exact ⟨h.1, h.2, (Option.some.inj e).symm⟩
    · rw [if_neg h] at e
      cases e
  have sq : SqL K H a (ns.map V.int) := by
    cases e : K.lookup a with
    | none => exact .inl (.inr ⟨o, if_pos ⟨rfl, e⟩⟩)
    | some q =>
      have z := kin a q e
      rw [there] at z
      cases z
      exact .inr ⟨_, us.toArray, _, e, rfl, rfl, rfl, by rw [List.size_toArray, lenU]; exact small, by simpa using rel⟩
  have hok : HOk P w H s.heap := fun b u e => by
    obtain ⟨rfl, _, rfl⟩ := Hat b u e
    exact ⟨there, by rw [List.length_map]; exact small, us, _, rel, there⟩
  have away : ∀ {b : Addr} {q : Obj}, K.lookup b = some q → H b = none := fun {b q} e => by
    cases z : H b with
    | none => rfl
    | some u =>
      obtain ⟨rfl, h, _⟩ := Hat b u z
      rw [h] at e
      cases e
  have dict : ∀ {b : Addr} {m : Str → Option Value}, s.heap.Ns b m → (hidT s.heap H).Ns b m := fun {b m} ⟨q, es, ep, e, d, r⟩ => by
    refine ⟨q, es, ep, hidT_get e ?_, d, r⟩
    cases z : H b with
    | none => rfl
    | some u =>
      obtain ⟨rfl, _, _⟩ := Hat b u z
      rw [there] at e
      cases e
      have d : Data.seq us.toArray _ = Data.dict es ep := d
      cases d
  have kinB : K.In (hidT s.heap H) := fun b q e => hidT_get (kin b q e) (away e)
  obtain ⟨mc, c1, c2⟩ := lim
  have env : Env0 P w K mg (hidT s.heap H) callerA [] s H :=
    { frames := rfl, mod := ⟨kinB, dict glob, ⟨mb, dict blt, bltIs⟩, ⟨mc, dict c1, c2⟩⟩, bs := fun b q e => of_hidT e, bsz := Nat.le_of_eq (hidT_size _ _), funs := trivial, frf := fun b hb => (by cases (show b ∈ ([] : List Addr) from hb)), hok := hok, bare := .of_eq gens }
  refine codeAny_mono (F _ kinB (dict glob) s H ⟨[.ref a], []⟩ [.ref a] [.ref a] _ _ hr env (binds s (.ref a)) (.cons rfl .nil) (hsp H sq)) fun r s' h => ?_
  match r, h with
  | .error e, h => exact (hCX H e s' h).elim
  | .ok .next, h => exact h.elim
  | .ok .brk, h => exact h.elim
  | .ok .cont, h => exact h.elim
  | .ok (.ret u), h =>
    obtain ⟨v, H', os, bare, un, hok', rv, q⟩ := h
    have q : v = .bl true := q
    subst q
    cases rv
    refine ⟨rfl, OldK.of_keep fun b q e => ?_, os, bare⟩
    cases z : H b with
    | none => exact un.keep b q e z (fun m => by cases (show b ∈ ([] : List Addr) from m)) (by simp)
    | some u =>
      obtain ⟨rfl, _, rfl⟩ := Hat b u z
      obtain ⟨e2, _⟩ := hok' _ _ (un.frzs _ _ _ z)
      rw [e] at there
      cases there
      exact e2
/-- the goal behind the head, from the law's promise where it is called -/
theorem walk_at {l : PySem.W.OpenLaw} {n k : Nat} {q : Program} {loose : List Str} {XP : (Str → Option Value) → Heap → Prop} {YP : World → Heap → Prop} {d : DefRec} {K : Params → PySem.W.Frag} {CX : World → CXT} {sp : World → Sp} {x : Str}
    (hn : l.most = some n) (hn2 : n ≤ sizeLine) (hdf : d.params.defaults = []) (hr : Room k callerA) (hY : ∀ (w : World) (h : Heap), YP w h → (K w.params).In h)
    (F : ∀ (w : World) (mg : Str → Option Value) (fa : Addr) (h : Heap), (K w.params).In h → h.Ns mainGlobals mg → mg d.name = some (.ref fa) →
      ∃ fd : FuncData, (∀ (s : Shared) (u : Value), BindsTo s fd ⟨[u], []⟩ [(x, u)]) ∧ ∀ base : Heap, (K w.params).In base → base.Ns mainGlobals mg → RunAt l.prog w (K w.params) mg base (CX w) k fa fd [x] (sp w))
    (hsp : ∀ (w : World) (H : Hp) (a : Addr) (ns : List Int), ns.length ≤ n → SqL (K w.params) H a (ns.map V.int) → sp w [.ref a] H (fun v _ => v = .bl true) fun _ _ _ => False)
    (hCX : ∀ (w : World) (H : Hp) (s : Shared) (e : Value) (s' : Shared), CX w [] H s (fun _ _ _ => False) e s' → False) : PySem.W.WalkO q loose XP YP l.row.toRowW d [] (fun f vs => PySem.call f vs) := by
  refine Att.attach_call hn hdf fun w s₀ s₁ mg mb fa o pm cd doc a vs ns G Y ho hd hcd hmg hobj hints hlen hg => ?_
  have kin := hY w _ Y
  obtain ⟨fd, hb, hF⟩ := F w mg fa _ kin G.T.g hmg
  exact run_law kin G.T.g G.T.b G.T.builtins G.T.nolimit hg hobj hints (Nat.le_trans hlen hn2) hr hF hb (fun H hS => hsp w H a ns hlen hS) fun H e s' => hCX w H s₁ e s'
/-- the law's def at its call: its body, with nothing under way -/
theorem fun_at {P : Program} {w : World} {K : PySem.W.Frag} {mg : Str → Option Value} {base : Heap} {x qual : Str} {st : Stmt} {f : Addr} {fd : FuncData} {N ps : List Str} {k : Nat} {sp : Sp} (F : Fun K x qual st f fd) (S : FnScope N ps (defScope st))
    (len : ∀ vs H Q E, sp vs H Q E → vs.length = ps.length)
    (body : ∀ (cdv : Value) (s : Shared) (H : Hp) (vs : List V) (Q : VK) (E : XK), Room k (callerA.deeper (envOfC qual (defScope st) s.heap.objs.size f cdv)) → (callerA.deeper (envOfC qual (defScope st) s.heap.objs.size f cdv)).guards = some [] → sp vs H Q E →
      ∃ t, PSs (cxOf (L2.CX P w) P w K mg base N qual (defScope st) f cdv callerA [] s H E) (defBody st) t ∧ t { nx := fun _ H' => Q .non H', rt := Q } (L2.start N vs) H) : RunAt P w K mg base (L2.CX P w) (k + 1) f fd ps sp := by
  obtain ⟨oc, od, kV, doc, pm, an, cdv, ct, osl, rfl, lk, hcd⟩ := F.ex
  intro s H args us vs Q E hr env bind rel hsp
  have lens := len _ _ _ _ hsp
  have kin : K.In s.heap := env.mod.kin.keeps fun b o e => (env.bs b o e).1
  have lim : s.heap.NoLimit := env.mod.nolimit.keeps fun b o e => (env.bs b o e).1
  have kinds : ∀ y ∈ ps.zip us, (defScope st).names.lookup y.1 = some .local ∨ ((defScope st).names.lookup y.1 = some .cell ∧ ((cellsFrom (s.heap.objs.size + 1) (defScope st).names []).lookup y.1).isSome = true) := by
    rintro ⟨n, v⟩ hy
    exact (S.par n (List.of_mem_zip hy).1).imp id fun z => ⟨z, PySem.W.cellsFrom_some _ _ _ (.inl z)⟩
  obtain ⟨t, ht, hq⟩ := body cdv s H vs Q E (hr.deeper _) rfl hsp
  refine codeAny_call_function hr.depth (kin _ _ lk) rfl S.co S.gen rfl (PySem.W.codeRec_of kin hcd) (bind _ _ _ _ ?_)
  refine wpAny_newFunctionEnv_cells S.kind kinds fun e he s1 new => ?_
  subst he
  refine ⟨lim.keeps new.toInCall.keep, codeAny_func ?_⟩
  have inv : Inv (cxOf (L2.CX P w) P w K mg base N qual (defScope st) f cdv callerA [] s H E) [] (L2.start N vs) H s1 := inv_start S hr.hd env lens rel new
  refine wpAny_mono (ht.run [] s1 _ H _ inv hq) (fun fl s' got => ?_) fun e s' got => got
  match fl, got with
  | .ret u, ⟨v, σ', H', J, rv, q⟩ => exact ⟨v, H', J.os, J.bare, J.base, J.hok, rv, q⟩
  | .next, ⟨σ', H', J, q⟩ => exact ⟨.non, H', J.os, J.bare, J.base, J.hok, rfl, q⟩
  | .brk, ⟨σ', H', J, q⟩ => exact q.elim
  | .cont, ⟨σ', H', J, q⟩ => exact q.elim
end Z

set_option Elab.async false
set_option linter.all false
set_option maxRecDepth 100000
set_option maxHeartbeats 2000000
/-! Zh: data arguments, told-of-some values, handing over. -/
namespace Z
open PySem PySem.Spec PyProof.Rows L2
section
variable {K : PySem.W.Frag} {W : WX} {ρ ρ' ρ1 : List Sl} {te ta tb : TE} {t u : TS} {tr : TA} {R : Rp} {B Ba Bb : Bw} {o : Out} {i j : Nat} {E : XK} {C : Addr} {n : Int}
/-- arguments that are data -/
structure EvD (ta : TA) (ρ : List Sl) (ds : List PyData) : Prop where
  all : EvA ta ρ (ds.map fun d => pu (dat d))
theorem ed_nil : EvD tNil ρ [] := ⟨ea_nil⟩
theorem ed_cons {d : PyData} {ds : List PyData} (h : Ev te ρ (pu (dat d))) (t : EvD tr ρ ds) : EvD (tCons te tr) ρ (d :: ds) := ⟨ea_cons h t.all⟩
theorem ev_tupD {ds : List PyData} (h : EvD tr ρ ds) (hl : ds.length ≤ 1000) : Ev (tTup tr) ρ (pu (dat (.tuple ds))) := ev_tup h.all hl
theorem en_lstD {ds : List PyData} (h : EvD tr ρ ds) (hl : ds.length ≤ 1000) : EvN (tLst tr) ρ ds := en_lst h.all hl
/-- a list that stays is a list -/
theorem Op2.l {r : R2} {ds : List PyData} (h : Op2 r (bL ds) Bb R) : Op2 r (pu (dat (.list ds))) Bb R := fun G H L x y Q l hx hy q => h G H L x y Q l (bl_of_dat _ _ _ hx) hy q
theorem Op2.r {r : R2} {ds : List PyData} (h : Op2 r Ba (bL ds) R) : Op2 r Ba (pu (dat (.list ds))) R := fun G H L x y Q l hx hy q => h G H L x y Q l hx (bl_of_dat _ _ _ hy) q
theorem Op2N.l {r : R2} {ds es : List PyData} (h : Op2N r (bL ds) Bb es) : Op2N r (pu (dat (.list ds))) Bb es := fun G H L x y Q l hx hy q => h G H L x y Q l (bl_of_dat _ _ _ hx) hy q
theorem Op2N.r {r : R2} {ds es : List PyData} (h : Op2N r Ba (bL ds) es) : Op2N r Ba (pu (dat (.list ds))) es := fun G H L x y Q l hx hy q => h G H L x y Q l hx (bl_of_dat _ _ _ hy) q
theorem Op2.is {r : R2} {R' : Rp} (h : Op2 r Ba Bb R) (e : R = R') : Op2 r Ba Bb R' := by rw [← e]; exact h
/-! ### values of which some is told -/
def exR {α : Type} (P : α → Prop) (F : α → Rp) : Rp := ⟨fun G v => ∃ x, P x ∧ (F x).p G v, fun e h => by
  obtain ⟨x, p, q⟩ := h
  exact ⟨x, p, (F x).up e q⟩⟩
theorem Slots.open_ {α : Type} {P : α → Prop} {F : α → Rp} {G : Hp} {L0 : List Cell} : ∀ {σ ρ L} {i : Nat}, Slots G L0 σ ρ L → ρ[i]? = some (.p (exR P F)) → ∃ x, P x ∧ Slots G L0 σ (ρ.set i (.p (F x))) L
  | _, _, _, _, .nil, h => by simp at h
  | _, _, _, 0, .x _, h => by simp at h
  | _, _, _, 0, .b _ _, h => by simp at h
  | _, _, _, 0, .o _ _, h => by simp at h
  | _, _, _, 0, .p q s, h => by
    simp at h; subst h
    obtain ⟨x, p, r⟩ := q
    exact ⟨x, p, .p r s⟩
  | _, _, _, i + 1, .x s, h => by
    obtain ⟨x, p, s'⟩ := s.open_ (i := i) (by simpa using h)
    exact ⟨x, p, .x s'⟩
  | _, _, _, i + 1, .b q s, h => by
    obtain ⟨x, p, s'⟩ := s.open_ (i := i) (by simpa using h)
    exact ⟨x, p, .b q s'⟩
  | _, _, _, i + 1, .p q s, h => by
    obtain ⟨x, p, s'⟩ := s.open_ (i := i) (by simpa using h)
    exact ⟨x, p, .p q s'⟩
  | _, _, _, i + 1, .o q s, h => by
    obtain ⟨x, p, s'⟩ := s.open_ (i := i) (by simpa using h)
    exact ⟨x, p, .o q s'⟩
theorem Ex.open_ {α : Type} {P : α → Prop} {F : α → Rp} (i : Nat) (hi : ρ[i]? = some (.p (exR P F))) (h : ∀ x, P x → Ex W t (ρ.set i (.p (F x))) o) : Ex W t ρ o := ⟨fun D s q => by
  obtain ⟨L, sl, la⟩ := s
  obtain ⟨x, p, sl'⟩ := sl.open_ hi
  exact (h x p).run D ⟨L, sl', la⟩ q⟩
theorem Ev.ex {α : Type} {P : α → Prop} {F : α → Rp} (x : α) (p : P x) (h : Ev te ρ (pu (F x))) : Ev te ρ (pu (exR P F)) := h.imp fun _ _ _ q => ⟨x, p, q⟩
/-! ### handing over -/
theorem Ex.retO {ds : List PyData} (h : EvN te ρ ds) : Ex W (tRet te) ρ (.ro (oL ds)) := ⟨fun D s q => h.run _ s fun G' H' p vs e s' hp d => by
  obtain ⟨G2, e2, l2⟩ := s'.fin
  exact q G2 _ p [(p, .lst vs)] (e.trans e2) (l2.cell hp) ⟨vs, rfl, dpAll_up e2 d⟩⟩
/-- an owned list, handed over -/
theorem Ex.retOv {ds : List PyData} (hi : ρ[i]? = some (.o (oL ds))) : Ex W (tRet (tVar i)) ρ (.ro (oL ds)) := ⟨fun D s q => by
  obtain ⟨L, sl, la⟩ := s
  obtain ⟨a, cs, M, e, hO, pm, _⟩ := sl.get_o hi
  have l2 : Lay _ (M ++ (cs ++ _)) _ := la.perm (by
    refine (pm.append_right _).trans ?_
    rw [List.append_assoc]
    exact perm_swap cs M _)
  obtain ⟨G2, e2, l3, _⟩ := l2.freezeAll
  exact ⟨_, e, q G2 _ a cs e2 l3 ((oL ds).up e2 hO)⟩⟩
/-- a pair (n, owned list) -/
def oPair (n : Int) (ds : List PyData) : Op := ⟨fun G a cs => ∃ l vs, G a = some (.tup [.int n, .ref l]) ∧ cs = [(l, HO.lst vs)] ∧ DqAll G vs ds, fun e h => by
  obtain ⟨l, vs, h1, h2, h3⟩ := h
  exact ⟨l, vs, e _ _ h1, h2, dpAll_up e h3⟩⟩
theorem Ex.retPair {ds : List PyData} (hi : ρ[i]? = some (.p (dI n))) (hj : ρ[j]? = some (.o (oL ds))) : Ex W (tRet (tTup (tCons (tVar i) (tCons (tVar j) tNil)))) ρ (.ro (oPair n ds)) := ⟨fun {G σ L0 H} D s q => by
  obtain ⟨v, e, r⟩ := s.get_p hi
  cases r
  obtain ⟨L, sl, la⟩ := s
  obtain ⟨a, cs, M, e', ⟨vs, hcs, hd⟩, pm, _⟩ := sl.get_o hj
  subst hcs
  refine ⟨_, e, _, e', (by show 2 ≤ sizeLine; decide), fun p hp => ?_⟩
  have g := same_upd (o := HO.tup [.int n, .ref a]) (la.freshG hp)
  have l2 : Lay (upd G p (HO.tup [.int n, .ref a])) (M ++ ([(a, HO.lst vs)] ++ L0)) (upd H p (HO.tup [.int n, .ref a])) := (la.grow (o := HO.tup [.int n, .ref a]) hp).perm (by
    refine (pm.append_right _).trans ?_
    rw [List.append_assoc]
    exact perm_swap _ M _)
  obtain ⟨G2, e2, l3, _⟩ := l2.freezeAll
  exact q G2 _ p _ (g.trans e2) l3 ⟨a, vs, e2 _ _ upd_same, rfl, dpAll_up (g.trans e2) hd⟩⟩
/-- a, b = f(..), f handing over a pair of a number and a list -/
theorem Ex.asgPair {α : Type} {pre : α → Prop} {A : α → List Bw} {F : α → Res} {ds : List PyData} (x : α) (ha : EvA tr ρ (A x)) (hp : pre x) (hR : F x = .own (oPair n ds)) (hj : j < ρ.length) :
    Ex W (tAsg (tCall (SpA pre A F) [] E tr) (gTup K 2 (gCons (gName i) (gCons (gName j) gNil)))) ρ (.nx ((ρ.set i (.p (dI n))).set j (.o (oL ds)))) := ⟨fun {G σ L0 H} D s q => ha.at s fun G1 H1 vs L e1 sl la r => by
  refine ⟨x, G1, L ++ L0, hp, la, by rw [List.append_nil]; exact r, ?_⟩
  rw [hR]
  intro G2 H2 a cs e2 l2 ro
  obtain ⟨l, ws, ht, hcs, d⟩ := ro
  subst hcs
  obtain ⟨H3, hn3, rfl, l3⟩ := Lay.uncell l2
  refine ⟨a, [.int n, .ref l], rfl, .inl (.inl (l2.same _ _ ht)), rfl, _, _, rfl, _, _, rfl, rfl, ?_⟩
  have s3 : Stt G2 ρ σ L0 H3 := ⟨L, sl.up e2, l3⟩
  obtain ⟨G4, e4, s4⟩ := s3.set_p (R := dI n) (v := .int n) (Dq.int n) i
  obtain ⟨G5, e5, s5⟩ := s4.set_o (O := oL ds) (a := l) (cs := [(l, .lst ws)]) (H' := upd H3 l (.lst ws)) ⟨ws, rfl, dpAll_up e4 d⟩ j (by simpa using hj) (fun M lm => lm.cell hn3)
  exact q G5 _ _ ((e1.trans e2).trans (e4.trans e5)) s5⟩
/-- f(..).append(e): a new list, changed and let go -/
theorem Ex.appNew {ds : List PyData} {d : PyData} {T : String} (h : EvN te ρ ds) (he : Ev ta ρ (pu (dat d))) (hz : ds.length < 1000000) (hT : T = "list") : Ex W (tDrop (tBM K T rAppend te (tCons ta tNil))) ρ (.nx ρ) := ⟨fun {G σ L0 H} D s q => h.run _ s fun G1 H1 p vs e1 s1 hp hd => by
  refine ⟨.inl ⟨hT, vs, .inl (.inl upd_same)⟩, ?_⟩
  obtain ⟨L, sl, la⟩ := s1
  -- the list as a frame's cell while e is evaluated
  have st : Stt G1 ρ σ ((p, HO.lst vs) :: L0) (upd H1 p (.lst vs)) := ⟨L, sl.mono fun c hc => List.mem_cons_of_mem _ hc, (la.cell hp).perm List.perm_middle.symm⟩
  refine he.atp st fun G2 H2 v e2 s2 r => ?_
  obtain ⟨L2, sl2, la2⟩ := s2
  have la3 := la2.perm List.perm_middle
  have hc := (la3.on _ (List.mem_cons_self ..)).1
  refine ⟨p, vs, v, rfl, rfl, hc, by rw [dpAll_len hd]; exact Nat.lt_trans hz (by decide), ?_⟩
  have la4 := (la3.store (u := HO.lst (vs ++ [v])))
  have hG : G2 p = none := (la3.on _ (List.mem_cons_self ..)).2
  have g := same_upd (o := HO.lst (vs ++ [v])) hG
  exact q _ _ _ ((e1.trans e2).trans g) ⟨L2, (((sl.mix e2 sl2)).up g), la4.freeze⟩⟩
theorem enum_map {α : Type} {en : α → PyData} : ∀ (xs : List α) (k : Nat), ((xs.map en).zipIdx k).map (fun p => PyData.tuple [.int ((p.2 : Nat) : Int), p.1]) = (xs.zipIdx k).map fun p => .tuple [.int ((p.2 : Nat) : Int), en p.1]
  | [], _ => rfl
  | x :: xs, k => by
    rw [List.map_cons, List.zipIdx_cons, List.map_cons, List.zipIdx_cons, List.map_cons, enum_map xs (k + 1)]
theorem ei_enumT {α : Type} {en : α → PyData} {xs : List α} (h : EvS K te ρ (xs.map en)) : EvI K (iEnum K (tCons te tNil)) ρ (xs.zipIdx.map fun p => .tuple [.int ((p.2 : Nat) : Int), en p.1]) := by
  rw [← enum_map xs 0]
  exact ei_enum h
theorem ei_rangeT {n : Int} (h : EvA tr ρ [pu (dI n)]) (h1 : -(2 ^ 62) ≤ n) (h2 : n < 2 ^ 62) : EvI K (iRng1 tr) ρ ((List.range n.toNat).map fun (k : Nat) => .int (k : Int)) := by
  have e : ((List.range n.toNat).map fun (k : Nat) => PyData.int (k : Int)) = irange 0 n.toNat := by
    unfold irange
    refine List.map_congr_left fun k _ => ?_
    rw [Int.zero_add]
  rw [e]
  exact ei_range1 h h1 h2
theorem ei_listT {α : Type} {en : α → PyData} {xs : List α} (h : EvS K te ρ (xs.map en)) : EvI K (iList K te) ρ (xs.map en) := ei_list h
theorem len_map_le {α β : Type} {f : α → β} {xs : List α} {n : Nat} (h : xs.length ≤ n) : (xs.map f).length ≤ n := by rw [List.length_map]; exact h
end
theorem cl_lenP {K : PySem.W.Frag} {ds : List PyData} : Cl (cLen K) [pu (dat (.list ds))] (dI ds.length) := fun G H L vs Q l r q => by
  cases r with
  | cons h t => exact cl_len G H L _ Q l (.cons (bl_of_dat _ _ _ h) t) q
theorem cl_listP {K : PySem.W.Frag} {ds : List PyData} : ClN (cList K) [pu (dat (.list ds))] ds := fun G H L vs Q l r q => by
  cases r with
  | cons h t => exact cl_list G H L _ Q l (.cons (bl_of_dat _ _ _ h) t) q
theorem o_inT2 {K : PySem.W.Frag} {n a b : Int} : Op2 (rIn K false) (pu (dI n)) (pu (dat (.tuple [.int a, .int b]))) (dB (decide (n ∈ [a, b]))) := o_inT (ns := [a, b])
theorem SpA.go {α : Type} {pre : α → Prop} {A : α → List Bw} {F : α → Res} {vs : List V} {H : Hp} {Q : VK} {E : XK} {t : TS} (h : SpA pre A F vs H Q E) (N : List Str) (m : Nat) (hm : ∀ x, (A x).length = m)
    (hx : ∀ x, pre x → ∃ r ρ, F x = r ∧ Ex (WofE E) t (st0 (A x) (N.length - m)) (r.out ρ)) : t { nx := fun _ H' => Q .non H', rt := Q } (L2.start N vs) H :=
  h.run (N := N) hm fun x p => by
    obtain ⟨r, ρ, e, ex⟩ := hx x p
    exact ⟨ρ, by rw [e]; exact ex⟩
/-- where the body may run out -/
theorem SpA.goN {α : Type} {pre : α → Prop} {A : α → List Bw} {F : α → Res} {vs : List V} {H : Hp} {Q : VK} {E : XK} {t : TS} (h : SpA pre A F vs H Q E) (N : List Str) (m : Nat) (hm : ∀ x, (A x).length = m)
    (hx : ∀ x, pre x → (∃ ρ, F x = .ok (dat .none) ∧ Ex (WofE E) t (st0 (A x) (N.length - m)) (.nx ρ)) ∨ ∃ r ρ, F x = r ∧ Ex (WofE E) t (st0 (A x) (N.length - m)) (r.out ρ)) : t { nx := fun _ H' => Q .non H', rt := Q } (L2.start N vs) H :=
  h.runN (N := N) hm fun x p => by
    rcases hx x p with ⟨ρ, e, ex⟩ | ⟨r, ρ, e, ex⟩
    · exact ⟨ρ, .inl ⟨e, ex⟩⟩
    · exact ⟨ρ, .inr (by rw [e]; exact ex)⟩
end Z

set_option Elab.async false
set_option linter.all false
set_option maxRecDepth 100000
set_option maxHeartbeats 2000000
/-! Zk: the rules that name the written part, with its name handed over. -/
namespace Z
open PySem PySem.Spec PyProof.Rows L2
section
variable (K : PySem.W.Frag) {X : Cx}
theorem kix_list (h : X.K = K := by rfl) : IxR X (rIxL K) := by subst h; exact ix_list
theorem kix_tup (h : X.K = K := by rfl) : IxR X (rIxT K) := by subst h; exact ix_tup
theorem ksl_list (h : X.K = K := by rfl) : SlR X (rSlL K) := by subst h; exact sl_list
theorem ksl_tup (h : X.K = K := by rfl) : SlR X (rSlT K) := by subst h; exact sl_tup
theorem kop_in (h : X.K = K := by rfl) : OpR X (compareOp .In) (rIn K false) := by subst h; exact op_in_seq
theorem kop_notIn (h : X.K = K := by rfl) : OpR X (compareOp .NotIn) (rIn K true) := by subst h; exact op_notIn_seq
theorem kop_eqD (hu : X.A.units + 64 < cLine) (h : X.K = K := by rfl) : OpR X (compareOp .Eq) (rEqD K) := by subst h; exact op_eqD hu
theorem kop_neD (hu : X.A.units + 64 < cLine) (h : X.K = K := by rfl) : OpR X (compareOp .NotEq) (rNeD K) := by subst h; exact op_neD hu
theorem kcall_len (h : X.K = K := by rfl) : CallR X (.builtin "len") (cLen K) := by subst h; exact call_len_seq
theorem kcall_list (h : X.K = K := by rfl) : CallR X (.type "list") (cList K) := by subst h; exact call_list_of
theorem kcall_sum (hc : X.calm = true) (h : X.K = K := by rfl) : CallR X (.builtin "sum") (rSum K) := by subst h; exact cr_sum hc
theorem kcall_any (hc : X.calm = true) (h : X.K = K := by rfl) : CallR X (.builtin "any") (rAny K) := by subst h; exact cr_any hc
theorem kcall_all (hc : X.calm = true) (h : X.K = K := by rfl) : CallR X (.builtin "all") (rAll K) := by subst h; exact cr_all hc
variable {tg l e : Expr} {tl te : TE} {ta : TA} {es elts : List Expr} {k kk n : Nat} {t : TGs} {pos p tpos : Pos} {f : Str}
theorem kpi_list (hl : PE X l tl) (h : X.K = K := by rfl) : PI X tg l (iList K tl) := by subst h; exact pi_list hl
theorem kpi_tup (hl : PE X l tl) (h : X.K = K := by rfl) : PI X tg l (iTup K tl) := by subst h; exact pi_tup hl
theorem kpi_enum (hg : Gl X "enumerate") (hm : X.mg "enumerate" = none) (ha : PA X [e] ta) (hs : starEach [e] X.env = [(false, eval e X.env)] := by rfl) (h : X.K = K := by rfl) : PI X (.Tuple elts kk tpos) (.Call (.Name "enumerate" p) [e] [] pos) (iEnum K ta) := by
  subst h; exact pi_enum hg hm ha hs
theorem kpg_tup (hc : X.calm = true) (hp : PGs X es t) (hn : (assignEach es X.env).length = n := by rfl) (hst : (assignEach es X.env).findIdx? (·.1) = none := by rfl) (h : X.K = K := by rfl) : PG X (.Tuple es k pos) (gTup K n t) := by
  subst h; exact pg_tup hc hp hn hst
theorem kps_fld {value o : Expr} {ta tv : TE} {pos' : Pos} (ho : PE X o ta) (hv : PE X value tv) (hs : swapsWith value (some (.Attribute o f pos')) pos.line X.env = pure false) (h : X.K = K := by rfl) : PS X (.Assign [.Attribute o f pos'] value pos) (sFld K ta tv f) := by subst h; exact ps_fld ho hv hs
theorem kpe_fld (he : PE X e te) (hb : attributeBase e f X.env (eval e X.env) = eval e X.env) (h : X.K = K := by rfl) : PE X (.Attribute e f pos) (tFld K te f) := by subst h; exact pe_fld he hb
end
end Z

set_option Elab.async false
set_option linter.all false
set_option maxRecDepth 100000
set_option maxHeartbeats 2000000
/-! Zl: makes and methods in a try. -/
namespace Z
open PySem PySem.Spec PyProof.Rows L2
section
variable {K : PySem.W.Frag} {W : WX} {ρ ρ' ρ1 : List Sl} {te ta tb : TE} {t u : TS} {tr : TA} {R : Rp} {B : Bw} {o : Out} {i : Nat} {α : Type} {pre : α → Prop} {A : α → List Bw} {C D : Addr} {n : Int}
theorem ev_makeS {F : α → IRes} {E : L2.St → XK} {fs : List (Str × Rp)} (x : α) (ha : EvA tr ρ (A x)) (hp : pre x) (hF : F x = .ok fs) : Ev (tMakeS C (SpI C pre A F) E tr) ρ (pu (insR C fs)) := Ev.pure fun {G σ L0 H} Q s q => ha.at s fun G1 H1 vs L e1 sl la r => fun y dx hy hd hne => by
  have g := same_upd (o := .own y) (la.freshG hd)
  have l1 : Lay (upd G1 dx (.own y)) (L ++ L0) (upd H1 dx (.own y)) := la.grow hd
  have hy1 : upd H1 dx (.own y) y = none := by rw [upd_ne (fun z => hne z.symm)]; exact hy
  have ab : ∀ {vs : List V} {Bs : List Bw}, AllB G1 (L ++ L0) vs Bs → AllB (upd G1 dx (.own y)) (L ++ L0) vs Bs := fun {vs Bs} h => by
    induction h with
    | nil => exact .nil
    | cons h _ ih => exact .cons (Bw.up _ g (fun _ z => z) h) ih
  refine ⟨x, upd G1 dx (.own y), L ++ L0, y, dx, vs, hp, rfl, l1.cell hy1, ab r, ?_⟩
  rw [hF]
  refine fun G' H' dx' fv e2 l2 hfl => ⟨rfl, ?_⟩
  have hG : G' y = none := (l2.on _ (List.mem_cons_self ..)).2
  have e3 := same_upd (o := HO.ins C dx' fv) hG
  exact q _ H' (.ref y) ((e1.trans (g.trans e2)).trans e3) ⟨L, sl.up ((g.trans e2).trans e3), l2.freeze⟩ ⟨y, dx', fv, rfl, upd_same, hfl.up e3⟩
theorem ex_makeS {F : α → IRes} (x : α) (ha : EvA tr ρ (A x)) (hp : pre x) (hF : F x = .err D n) : EvX W (tMakeS C (SpI C pre A F) (WE W) tr) ρ D n := ⟨fun {G σ L0 H} Q s q => ha.at s fun G1 H1 vs L e1 sl la r => fun y dx hy hd hne => by
  have g := same_upd (o := .own y) (la.freshG hd)
  have l1 : Lay (upd G1 dx (.own y)) (L ++ L0) (upd H1 dx (.own y)) := la.grow hd
  have hy1 : upd H1 dx (.own y) y = none := by rw [upd_ne (fun z => hne z.symm)]; exact hy
  have ab : ∀ {vs : List V} {Bs : List Bw}, AllB G1 (L ++ L0) vs Bs → AllB (upd G1 dx (.own y)) (L ++ L0) vs Bs := fun {vs Bs} h => by
    induction h with
    | nil => exact .nil
    | cons h _ ih => exact .cons (Bw.up _ g (fun _ z => z) h) ih
  refine ⟨x, upd G1 dx (.own y), L ++ L0, y, dx, vs, hp, rfl, l1.cell hy1, ab r, ?_⟩
  rw [hF]
  exact fun G' H' d e2 l2 hd' => q G' H' d (e1.trans (g.trans e2)) ⟨L, sl.up (g.trans e2), l2⟩ hd'⟩
theorem ev_methSx {E : L2.St → XK} {F : α → Res} {fs : List (Str × Rp)} {m : Str} {B0 : α → Bw} (x : α) (h0 : Ev te ρ (pu (insR C fs))) (hm : fs.lookup m = none) (ha : EvA tr ρ (A x)) (hB : ∀ G L v, (insR C fs).p G v → (B0 x).p G L v) (hp : pre x) (hR : F x = .ok R) :
    Ev (tMethSx C m (SpA pre (fun x => B0 x :: A x) F) E te tr) ρ (pu R) := Ev.pure fun {G σ L0 H} Q s q => h0.atp s fun G0 H0 v e0 s0 r0 => by
  obtain ⟨a, dx, fv, rfl, hH, hfl⟩ := id r0
  refine ⟨a, dx, fv, rfl, s0.same _ _ hH, hfl.no hm, ?_⟩
  refine ha.at s0 fun G1 H1 vs L e1 sl la r => ?_
  refine ⟨x, G1, L ++ L0, hp, la, .cons (hB _ _ _ ((insR C fs).up e1 r0)) r, ?_⟩
  rw [hR]
  exact fun G2 H2 v e2 l2 rv => q G2 H2 v ((e0.trans e1).trans e2) ⟨L, sl.up e2, l2⟩ rv
theorem en_methSx {E : L2.St → XK} {F : α → Res} {fs : List (Str × Rp)} {m : Str} {B0 : α → Bw} {ds : List PyData} (x : α) (h0 : Ev te ρ (pu (insR C fs))) (hm : fs.lookup m = none) (ha : EvA tr ρ (A x)) (hB : ∀ G L v, (insR C fs).p G v → (B0 x).p G L v) (hp : pre x) (hR : F x = .own (oL ds)) :
    EvN (tMethSx C m (SpA pre (fun x => B0 x :: A x) F) E te tr) ρ ds := ⟨fun {G σ L0 H} Q s q => h0.atp s fun G0 H0 v e0 s0 r0 => by
  obtain ⟨a, dx, fv, rfl, hH, hfl⟩ := id r0
  refine ⟨a, dx, fv, rfl, s0.same _ _ hH, hfl.no hm, ?_⟩
  refine ha.at s0 fun G1 H1 vs L e1 sl la r => ?_
  refine ⟨x, G1, L ++ L0, hp, la, .cons (hB _ _ _ ((insR C fs).up e1 r0)) r, ?_⟩
  rw [hR]
  intro G2 H2 a2 cs e2 l2 ro
  obtain ⟨ws, hcs, d⟩ := ro
  subst hcs
  obtain ⟨H3, hn3, rfl, l3⟩ := Lay.uncell l2
  exact q G2 H3 _ ws ((e0.trans e1).trans e2) ⟨L, sl.up e2, l3⟩ hn3 d⟩
theorem ex_methSx {F : α → Res} {fs : List (Str × Rp)} {m : Str} {B0 : α → Bw} (x : α) (h0 : Ev te ρ (pu (insR C fs))) (hm : fs.lookup m = none) (ha : EvA tr ρ (A x)) (hB : ∀ G L v, (insR C fs).p G v → (B0 x).p G L v) (hp : pre x) (hR : F x = .err D n) :
    EvX W (tMethSx C m (SpA pre (fun x => B0 x :: A x) F) (WE W) te tr) ρ D n := ⟨fun {G σ L0 H} Q s q => h0.atp s fun G0 H0 v e0 s0 r0 => by
  obtain ⟨a, dx, fv, rfl, hH, hfl⟩ := id r0
  refine ⟨a, dx, fv, rfl, s0.same _ _ hH, hfl.no hm, ?_⟩
  refine ha.at s0 fun G1 H1 vs L e1 sl la r => ?_
  refine ⟨x, G1, L ++ L0, hp, la, .cons (hB _ _ _ ((insR C fs).up e1 r0)) r, ?_⟩
  rw [hR]
  exact fun G2 H2 d e2 l2 hd => q G2 H2 d ((e0.trans e1).trans e2) ⟨L, sl.up e2, l2⟩ hd⟩
end
end Z

set_option Elab.async false
set_option linter.all false
set_option maxRecDepth 100000
set_option maxHeartbeats 2000000
set_option exponentiation.threshold 4000
/-! Zm: data that may be compared, and shown. -/
namespace Z
open PySem PySem.Spec PyProof.Rows L2
/-- no strings' surprises, at most this deep -/
structure Sh (k : Nat) (d : PyData) : Prop where
  lay : d.canLay0 = true
  deep : d.depth ≤ k
theorem sh_int {k : Nat} {i : Int} : Sh k (.int i) := ⟨rfl, Nat.zero_le _⟩
theorem sh_bool {k : Nat} {b : Bool} : Sh k (.bool b) := ⟨rfl, Nat.zero_le _⟩
theorem sh_none {k : Nat} : Sh k .none := ⟨rfl, Nat.zero_le _⟩
theorem canAll {xs : List PyData} (h : ∀ x ∈ xs, x.canLay0 = true) : PyData.canLayAll0 xs = true := by
  induction xs with
  | nil => rfl
  | cons x xs ih =>
    rw [PyData.canLayAll0, h x (List.mem_cons_self ..), ih fun y hy => h y (List.mem_cons_of_mem _ hy)]; rfl
theorem deepAll {k : Nat} {xs : List PyData} (h : ∀ x ∈ xs, x.depth ≤ k) : PyData.depthAll xs ≤ k := by
  induction xs with
  | nil => exact Nat.zero_le _
  | cons x xs ih =>
    rw [PyData.depthAll]
    exact Nat.max_le.mpr ⟨h x (List.mem_cons_self ..), ih fun y hy => h y (List.mem_cons_of_mem _ hy)⟩
theorem sh_list {k : Nat} {xs : List PyData} (h : ∀ x ∈ xs, Sh k x) : Sh (k + 1) (.list xs) := ⟨by rw [PyData.canLay0]; exact canAll fun x hx => (h x hx).lay, by rw [PyData.depth]; exact Nat.succ_le_succ (deepAll fun x hx => (h x hx).deep)⟩
theorem sh_tup {k : Nat} {xs : List PyData} (h : ∀ x ∈ xs, Sh k x) : Sh (k + 1) (.tuple xs) := ⟨by rw [PyData.canLay0]; exact canAll fun x hx => (h x hx).lay, by rw [PyData.depth]; exact Nat.succ_le_succ (deepAll fun x hx => (h x hx).deep)⟩
theorem sh_nil {k : Nat} : ∀ x ∈ ([] : List PyData), Sh k x := fun x h => nomatch h
theorem sh_cons {k : Nat} {d : PyData} {ds : List PyData} (h : Sh k d) (t : ∀ x ∈ ds, Sh k x) : ∀ x ∈ d :: ds, Sh k x := fun x hx => by
  rcases List.mem_cons.mp hx with rfl | hx
  · exact h
  · exact t x hx
theorem sh_map {α : Type} {k : Nat} {f : α → PyData} {xs : List α} (h : ∀ x ∈ xs, Sh k (f x)) : ∀ y ∈ xs.map f, Sh k y := fun y hy => by
  obtain ⟨x, hx, rfl⟩ := List.mem_map.mp hy
  exact h x hx
theorem Sh.shaped {k : Nat} {d : PyData} (h : Sh k d) (hk : k ≤ 64 := by decide) : SeqAt.shaped d = true := by
  unfold SeqAt.shaped
  rw [h.lay, decide_eq_true (Nat.le_trans h.deep hk)]; rfl
theorem Sh.refl {k : Nat} {d : PyData} (h : Sh k d) : PyData.eqv d d = true := SeqAt.eqv_refl d h.lay
/-- what repr shows -/
structure Sm (k w : Nat) (d : PyData) : Prop where
  sh : Sh k d
  wt : d.weight ≤ w
  short : d.intsShort 13 = true
  show_ : d.showable = true
theorem sm_int {k : Nat} {i : Int} (h : i.natAbs < 10 ^ 12) : Sm k 40 (.int i) := by
  refine ⟨sh_int, ?_, ?_, ?_⟩
  · rw [PyData.weight]
    by_cases z : i = 0
    · rw [if_pos (by simpa using z)]; decide
    · rw [if_neg (by simpa using z)]
      have : i.natAbs.log2 < 40 := (Nat.log2_lt (by omega)).mpr (by omega)
      omega
  · rw [PyData.intsShort]; exact decide_eq_true (PyData.shown_int_le h)
  · rw [PyData.showable]
    refine decide_eq_true ?_
    by_cases z : i.natAbs = 0
    · rw [z]; decide
    · exact (Nat.log2_lt z).mpr (Nat.lt_trans h (Nat.lt_of_lt_of_le (show 10 ^ 12 < 2 ^ 40 by decide) (Nat.pow_le_pow_right (by decide) (by decide))))
theorem shortAll {xs : List PyData} (h : ∀ x ∈ xs, x.intsShort 13 = true) : PyData.intsShortAll 13 xs = true := by
  induction xs with
  | nil => rfl
  | cons x xs ih =>
    rw [PyData.intsShortAll, h x (List.mem_cons_self ..), ih fun y hy => h y (List.mem_cons_of_mem _ hy)]; rfl
theorem showAll {xs : List PyData} (h : ∀ x ∈ xs, x.showable = true) : PyData.showableAll xs = true := by
  induction xs with
  | nil => rfl
  | cons x xs ih =>
    rw [PyData.showableAll, h x (List.mem_cons_self ..), ih fun y hy => h y (List.mem_cons_of_mem _ hy)]; rfl
theorem wtAll {w : Nat} {xs : List PyData} (h : ∀ x ∈ xs, x.weight ≤ w) : PyData.weightAll xs ≤ xs.length * (w + 1) := by
  induction xs with
  | nil => exact Nat.zero_le _
  | cons x xs ih =>
    rw [PyData.weightAll, List.length_cons, Nat.succ_mul]
    have := h x (List.mem_cons_self ..)
    have := ih fun y hy => h y (List.mem_cons_of_mem _ hy)
    omega
theorem sm_list {k w W : Nat} {xs : List PyData} (h : ∀ x ∈ xs, Sm k w x) (hw : xs.length * (w + 1) ≤ W) : Sm (k + 1) W (.list xs) :=
  ⟨sh_list fun x hx => (h x hx).sh, by rw [PyData.weight]; exact Nat.le_trans (wtAll fun x hx => (h x hx).wt) hw, by rw [PyData.intsShort]; exact shortAll fun x hx => (h x hx).short, by rw [PyData.showable]; exact showAll fun x hx => (h x hx).show_⟩
theorem sm_tup {k w W : Nat} {xs : List PyData} (h : ∀ x ∈ xs, Sm k w x) (hw : xs.length * (w + 1) ≤ W) : Sm (k + 1) W (.tuple xs) :=
  ⟨sh_tup fun x hx => (h x hx).sh, by rw [PyData.weight]; exact Nat.le_trans (wtAll fun x hx => (h x hx).wt) hw, by rw [PyData.intsShort]; exact shortAll fun x hx => (h x hx).short, by rw [PyData.showable]; exact showAll fun x hx => (h x hx).show_⟩
theorem Sm.mono {k w k' w' : Nat} {d : PyData} (h : Sm k w d) (hk : k ≤ k') (hw : w ≤ w') : Sm k' w' d := ⟨⟨h.sh.lay, Nat.le_trans h.sh.deep hk⟩, Nat.le_trans h.wt hw, h.short, h.show_⟩
theorem sm_nil {k w : Nat} : ∀ x ∈ ([] : List PyData), Sm k w x := fun x h => nomatch h
theorem sm_cons {k w : Nat} {d : PyData} {ds : List PyData} (h : Sm k w d) (t : ∀ x ∈ ds, Sm k w x) : ∀ x ∈ d :: ds, Sm k w x := fun x hx => by
  rcases List.mem_cons.mp hx with rfl | hx
  · exact h
  · exact t x hx
theorem sm_map {α : Type} {k w : Nat} {f : α → PyData} {xs : List α} (h : ∀ x ∈ xs, Sm k w (f x)) : ∀ y ∈ xs.map f, Sm k w y := fun y hy => by
  obtain ⟨x, hx, rfl⟩ := List.mem_map.mp hy
  exact h x hx
theorem Sm.len {k w : Nat} {d : PyData} (h : Sm k w d) (hk : k ≤ 60) (hw : w ≤ 2 ^ 20) : d.shown.length ≤ sizeLine := by
  refine Nat.le_trans (shown_le13 ?_ h.short) (by decide)
  unfold PyData.layable0
  rw [h.sh.lay, decide_eq_true (Nat.le_trans h.sh.deep (Nat.le_trans hk (by decide))), decide_eq_true (Nat.le_trans h.wt hw)]; rfl
/-- repr of such data -/
theorem cl_repr {k w : Nat} {xs : List PyData} (h : Sm k w (.tuple xs)) (hk : k ≤ 60 := by decide) (hw : w ≤ 2 ^ 20 := by decide) : Cl cRepr [pu (dat (.tuple xs))] (dat (.str (PyData.shown (.tuple xs)))) := fun G H L vs Q l r q => by
  cases r with
  | cons h1 t =>
    cases t
    have h1 : Dq G _ (.tuple xs) := h1
    cases h1 with
    | @tup a ys _ hv d =>
      exact ⟨a, .tuple xs, rfl, dp_up l.same (Dq.tup hv d), h.show_, PyData.hasDict_of_canLay _ h.sh.lay, Nat.le_trans h.sh.deep hk, h.len hk hw, q _ (Dq.str _)⟩
end Z

set_option Elab.async false
set_option linter.all false
set_option maxRecDepth 100000
set_option maxHeartbeats 2000000
/-! Zn: the script. -/
namespace Z
open PySem PySem.Spec PyProof.Rows L2
section
variable {K : PySem.W.Frag} {ρ : List Sl} {te : TE}
theorem sqL_up {H H' : Hp} {a : Addr} {xs : List V} (e : Same H H') (h : SqL K H a xs) : SqL K H' a xs := by
  rcases h with (h | ⟨o, h⟩) | h
  · exact .inl (.inl (e _ _ h))
  · exact .inl (.inr ⟨o, e _ _ h⟩)
  · exact .inr h
/-- the script: whole numbers, wherever they stand -/
def scR (K : PySem.W.Frag) (xs : List Int) : Rp := ⟨fun G v => ∃ a, v = .ref a ∧ SqL K G a (xs.map V.int), fun e h => by
  obtain ⟨a, r, q⟩ := h
  exact ⟨a, r, sqL_up e q⟩⟩
theorem cl_lenS {xs : List Int} : Cl (cLen K) [pu (scR K xs)] (dI xs.length) := fun G H L vs Q l r q => by
  cases r with
  | cons h t =>
    cases t
    obtain ⟨a, rfl, hv⟩ := h
    refine ⟨a, _, rfl, .inl (sqL_up l.same hv), q _ ?_⟩
    rw [List.length_map]
    exact Dq.int _
theorem atI_V {α : Type} {en : α → V} {xs : List α} {i : Int} {x : α} (h0 : 0 ≤ i) (h : xs[i.toNat]? = some x) : atI (xs.map en) i = some (en x) := by
  obtain ⟨hl, rfl⟩ := List.getElem?_eq_some_iff.mp h
  unfold atI ixN
  rw [if_pos h0, if_pos (by rw [List.length_map]; omega)]
  show (xs.map en)[i.toNat]? = _
  rw [List.getElem?_map, h]
  rfl
theorem o_ixS {xs : List Int} {i x : Int} (h0 : 0 ≤ i) (h : xs[i.toNat]? = some x) : Op2 (rIxL K) (pu (scR K xs)) (pu (dI i)) (dI x) := fun G H L v y Q l hx hy q => by
  obtain ⟨a, rfl, hv⟩ := hx
  cases hy
  exact ⟨a, _, i, _, rfl, rfl, sqL_up l.same hv, atI_V h0 h, q _ (Dq.int _)⟩
theorem ev_sS {xs : List Int} (h : Ev te ρ (pu (scR K xs))) : EvS K te ρ (xs.map .int) := ⟨fun Q s q => h.atp s fun G' H' v e s' r => by
  obtain ⟨a, rfl, hv⟩ := r
  exact q G' H' a _ e s' (fun G'' L'' H'' e2 l => sqL_up l.same (sqL_up e2 hv)) (dpAll_of_ints xs)⟩
end
theorem o_eqS {a b : Str} : Op2 rEq (pu (dat (.str a))) (pu (dat (.str b))) (dB (decide (a = b))) := fun G H L x y Q _ hx hy q => by
  cases hx; cases hy
  refine ⟨rfl, q _ ?_⟩
  have e : decide (V.str a = V.str b) = decide (a = b) := by rw [Bool.eq_iff_iff]; simp
  rw [e]
  exact Dq.bl _
theorem o_neS {a b : Str} : Op2 rNe (pu (dat (.str a))) (pu (dat (.str b))) (dB (!decide (a = b))) := fun G H L x y Q _ hx hy q => by
  cases hx; cases hy
  refine ⟨rfl, q _ ?_⟩
  have e : decide (V.str a = V.str b) = decide (a = b) := by rw [Bool.eq_iff_iff]; simp
  rw [e]
  exact Dq.bl _
/-- an error of the class at C is what «except S» names -/
theorem exm_of {K : PySem.W.Frag} {C S : Addr} (h1 : PySem.W.subIn K (.ref S) (.type "BaseException") = some true) (h2 : PySem.W.isClsIn K S = true) (h3 : PySem.W.typeIn K (.ref S) = some (.type "type")) (h4 : PySem.W.subIn K (.ref C) (.ref S) = some true) :
    PySem.W.exmOne K (.ref C) (.ref S) = some true := by
  have e1 : (PySem.W.subIn K (.ref S) (.type "BaseException") == some true) = true := by rw [h1] <;> rfl
  have e2 : ((PySem.W.clsIn K S).isSome && PySem.W.typeIn K (.ref S) == some (.type "type")) = true := by
    have h2' : (PySem.W.clsIn K S).isSome = true := h2
    rw [h2', h3] <;> rfl
  show (if (PySem.W.subIn K (.ref S) (.type "BaseException") == some true) = true then (if ((PySem.W.clsIn K S).isSome && PySem.W.typeIn K (.ref S) == some (.type "type")) = true then PySem.W.subIn K (.ref C) (.ref S) else none) else none) = some true
  rw [if_pos e1, if_pos e2]
  exact h4
theorem room64 {k : Nat} {A : Around} (r : Room k A) : A.units + 64 < cLine := by have := r.un; omega
theorem room70 {k : Nat} {A : Around} (r : Room k A) : A.units + 70 < cLine := by have := r.un; omega
end Z

set_option Elab.async false
set_option linter.all false
set_option maxRecDepth 100000
set_option maxHeartbeats 2000000
/-! Zo: statements that end in some of several ways; loops by an invariant. -/
namespace Z
open PySem PySem.Spec PyProof.Rows L2
structure ExS (W : WX) (ts : TS) (ρ : List Sl) (S : Out → Prop) : Prop where
  run : ∀ {G : Hp} {σ : L2.St} {L0 : List Cell} {H : Hp} (D : Ends), Stt G ρ σ L0 H → (∀ o, S o → Post W D G L0 o) → ts D σ H
section
variable {K : PySem.W.Frag} {W : WX} {ρ ρ' ρ1 : List Sl} {te ta tb : TE} {t u : TS} {tr : TA} {R : Rp} {B : Bw} {o : Out} {i : Nat} {S S' S1 : Out → Prop}
theorem ExS.of (h : Ex W t ρ o) (k : S o) : ExS W t ρ S := ⟨fun D s q => h.run D s (q o k)⟩
theorem ExS.ex (h : ExS W t ρ (fun o' => o' = o)) : Ex W t ρ o := ⟨fun D s q => h.run D s fun o' e => by rw [e]; exact q⟩
theorem ExS.imp (h : ExS W t ρ S) (k : ∀ o, S o → S' o) : ExS W t ρ S' := ⟨fun D s q => h.run D s fun o p => q o (k o p)⟩
theorem ExS.seq (h : Ex W t ρ (.nx ρ1)) (k : ExS W u ρ1 S) : ExS W (tSeq t u) ρ S := ⟨fun D s q => h.run { D with nx := u D } s fun G' σ' H' e s' => k.run D s' fun o p => (q o p).mono e⟩
theorem Post.seqE {D : Ends} {G : Hp} {L0 : List Cell} {N : L2.St → Hp → Prop} (k : o.ends = true) (q : Post W D G L0 o) : Post W { D with nx := N } G L0 o := by
  cases o with
  | nx _ => cases k
  | go _ => cases k
  | bk _ => exact q
  | ct _ => exact q
  | rt _ => exact q
  | ro _ => exact q
  | xc _ _ _ => exact q
theorem ExS.seqS (h : ExS W t ρ S1) (k : ∀ o, S1 o → (∃ ρ1, o = .nx ρ1 ∧ ExS W u ρ1 S) ∨ (o.ends = true ∧ S o)) : ExS W (tSeq t u) ρ S := ⟨fun D s q => h.run { D with nx := u D } s fun o p => by
  rcases k o p with ⟨ρ1, rfl, h2⟩ | ⟨he, hs⟩
  · exact fun G' σ' H' e s' => h2.run D s' fun o p => (q o p).mono e
  · exact (q o hs).seqE he⟩
theorem ExS.seqX (h : Ex W t ρ o) (k : o.ends = true) (hs : S o) : ExS W (tSeq t u) ρ S := ExS.of (h.seqE k) hs
theorem ExS.ife {tc : TT} {b : Bool} (hc : EvT tc ρ b) (h1 : b = true → ExS W t ρ S) (h2 : b = false → ExS W u ρ S) : ExS W (tIfS tc t u) ρ S := ⟨fun D s q => hc.run _ s fun G1 H1 e1 s1 => by
  cases b with
  | true => exact (h1 rfl).run D s1 fun o p => (q o p).mono e1
  | false => exact (h2 rfl).run D s1 fun o p => (q o p).mono e1⟩
theorem ExS.ite {v : TS} {tc : TT} {b : Bool} (hc : EvT tc ρ b) (h1 : b = true → ExS W (tSeq t v) ρ S) (h2 : b = false → ExS W (tSeq u v) ρ S) : ExS W (tSeq (tIfS tc t u) v) ρ S := ⟨fun D s q => hc.run _ s fun G1 H1 e1 s1 => by
  cases b with
  | true => exact (h1 rfl).run D s1 fun o p => (q o p).mono e1
  | false => exact (h2 rfl).run D s1 fun o p => (q o p).mono e1⟩
theorem ExS.skip (h : ExS W u ρ S) : ExS W (tSeq tNext u) ρ S := ExS.seq Ex.next h
theorem ExS.from_ {ρ'} (e : ρ' = ρ) (h : ExS W t ρ' S) : ExS W t ρ S := by rw [← e]; exact h
theorem ExS.weak (w : Wk ρ ρ') (h : ExS W t ρ' S) : ExS W t ρ S := ⟨fun D s q => by
  obtain ⟨G2, e2, s2⟩ := s.weak w
  exact h.run D s2 fun o p => (q o p).mono e2⟩
theorem ExS.freeze {ds : List PyData} (i : Nat) (hi : ρ[i]? = some (.o (oL ds))) (h : ExS W t (ρ.set i (.p (dat (.list ds)))) S) : ExS W t ρ S := ⟨fun {G σ L0 H} D s q => by
  obtain ⟨a, cs, e, ⟨vs, hcs, d⟩, hh, k1, k2⟩ := s.get_o hi
  subst hcs
  obtain ⟨G2, e2, s2⟩ := k2 (dat (.list ds)) fun G' e' hc => Dq.lst (hc (a, .lst vs) (List.mem_cons_self ..)) (dpAll_up e' d)
  exact h.run D s2 fun o p => (q o p).mono e2⟩
theorem ExS.open_ {α : Type} {P : α → Prop} {F : α → Rp} (i : Nat) (hi : ρ[i]? = some (.p (exR P F))) (h : ∀ x, P x → ExS W t (ρ.set i (.p (F x))) S) : ExS W t ρ S := ⟨fun D s q => by
  obtain ⟨L, sl, la⟩ := s
  obtain ⟨x, p, sl'⟩ := sl.open_ hi
  exact (h x p).run D ⟨L, sl', la⟩ q⟩
/-- told less exactly -/
theorem Ex.rtW {R' : Rp} (h : Ex W t ρ (.rt R)) (k : ∀ G v, R.p G v → R'.p G v) : Ex W t ρ (.rt R') := ⟨fun D s q => h.run D s fun G' ρ' σ' H' v e s' r => q G' ρ' σ' H' v e s' (k _ _ r)⟩
theorem Ex.roW {O O' : Op} (h : Ex W t ρ (.ro O)) (k : ∀ G a cs, O.p G a cs → O'.p G a cs) : Ex W t ρ (.ro O') := ⟨fun D s q => h.run D s fun G' H' a cs e l r => q G' H' a cs e l (k _ _ _ r)⟩
/-! ### owned things of which some is told -/
def exO {α : Type} (P : α → Prop) (F : α → Op) : Op := ⟨fun G a cs => ∃ x, P x ∧ (F x).p G a cs, fun e h => by
  obtain ⟨x, p, q⟩ := h
  exact ⟨x, p, (F x).up e q⟩⟩
/-! ### loops -/
theorem ExS.forI {α Sx : Type} {wi : TI} {g : TG} {tb : TS} {xs : List α} {en : α → PyData} (E : Sx → List Sl) (I : List α → Sx → Prop) {s0 : Sx} (hi : EvI K wi ρ (xs.map en)) (h0 : Wk ρ (E s0)) (i0 : I [] s0)
    (hb : ∀ pre x post s, xs = pre ++ x :: post → I pre s → ∃ T ρ1, EvG g T (E s) (dat (en x)) ρ1 ∧ ExS W tb ρ1 (fun o => (∃ s', I (pre ++ [x]) s' ∧ o = .go (E s')) ∨ (o.leaves = true ∧ S (unbk o))))
    (hf : ∀ s, I xs s → S (.nx (E s))) : ExS W (tFor wi g tb) ρ S := ⟨fun {G σ L0 H} D s q => hi.run _ s fun G1 H1 J e1 s1 gv => by
  obtain ⟨G2, e2, s2⟩ := s1.weak h0
  refine ⟨fun i m σ H => m = xs.length - i ∧ i ≤ xs.length ∧ ∃ s G', I (xs.take i) s ∧ Same G2 G' ∧ Stt G' (E s) σ L0 H, ⟨xs.length, by simp, Nat.zero_le _, s0, G2, i0, Same.refl _, s2⟩, ?_⟩
  rintro i m σ' H' ⟨rfl, hi, s', G', hr, e3, s3⟩
  obtain ⟨L3, sl3, la3⟩ := id s3
  have e13 : Same G1 G' := e2.trans e3
  by_cases hlt : i < xs.length
  · right
    have hx : xs[i]? = some xs[i] := List.getElem?_eq_getElem hlt
    have hsplit : xs = xs.take i ++ xs[i] :: xs.drop (i + 1) := by
      rw [List.getElem_cons_drop, List.take_append_drop]
    have htk : xs.take (i + 1) = xs.take i ++ [xs[i]] := by rw [List.take_add_one, hx]; rfl
    obtain ⟨T, ρ1, hg, hbody⟩ := hb _ _ _ s' hsplit hr
    obtain ⟨g1, g2⟩ := gv.go i G' L3 H' e13 la3 (by simpa using hlt)
    refine ⟨g1, fun σ'' H'' => ∃ s G', I (xs.take (i + 1)) s ∧ Same G2 G' ∧ Stt G' (E s) σ'' L0 H'', fun σ'' H'' ⟨s, G'', a, b, c⟩ => ⟨xs.length - (i + 1), by omega, rfl, hlt, s, G'', a, b, c⟩, fun x H4 y => ?_⟩
    obtain ⟨G4, e4, l4, d4⟩ := g2 x H4 y
    have d4 : Dq G4 x (en xs[i]) := by simpa using d4
    have s4 : Stt G4 (E s') σ' L0 H4 := ⟨L3, sl3.up e4, l4 _ la3⟩
    refine hg.run x _ s4 d4 fun G5 σ5 H5 e5 s5 _ => ?_
    have e25 : Same G2 G5 := (e3.trans e4).trans e5
    refine hbody.run _ s5 fun o ho => ?_
    rcases ho with ⟨s6, i6, rfl⟩ | ⟨hl, hs⟩
    · have k : ∀ G6 σ6 H6, Same G5 G6 → Stt G6 (E s6) σ6 L0 H6 → ∃ s G', I (xs.take (i + 1)) s ∧ Same G2 G' ∧ Stt G' (E s) σ6 L0 H6 := fun G6 σ6 H6 e6 st => ⟨s6, G6, by rw [htk]; exact i6, e25.trans e6, st⟩
      exact ⟨k, k⟩
    · have q := (q _ hs).mono (e1.trans (e2.trans e25))
      cases o with
      | nx _ => cases hl
      | go _ => cases hl
      | ct _ => cases hl
      | bk _ => exact q
      | rt _ => exact q
      | ro _ => exact q
      | xc _ _ _ => exact q
  · left
    have e : i = xs.length := by omega
    subst e
    rw [List.take_length] at hr
    exact ⟨gv.stop _ G' L3 H' e13 la3 (by simp), q _ (hf s' hr) G' σ' H' (e1.trans e13) s3⟩⟩
theorem ExS.whileI {Sx : Type} {tc : TT} {tb : TS} (E : Sx → List Sl) (I : Sx → Prop) (μ : Sx → Nat) (b : Sx → Bool) {s0 : Sx} (h0 : Wk ρ (E s0)) (i0 : I s0)
    (ht : ∀ s, I s → EvT tc (E s) (b s))
    (hb : ∀ s, I s → b s = true → ExS W tb (E s) (fun o => (∃ s', I s' ∧ μ s' < μ s ∧ o = .go (E s')) ∨ (o.leaves = true ∧ S (unbk o))))
    (hf : ∀ s, I s → b s = false → S (.nx (E s))) : ExS W (tWhile tc tb) ρ S := ⟨fun {G σ L0 H} D s q => by
  obtain ⟨G2, e2, s2⟩ := s.weak h0
  refine ⟨fun m σ H => ∃ s G', I s ∧ μ s = m ∧ Same G2 G' ∧ Stt G' (E s) σ L0 H, ⟨_, s0, G2, i0, rfl, Same.refl _, s2⟩, ?_⟩
  rintro m σ' H' ⟨s', G', hi, rfl, e3, s3⟩
  refine (ht s' hi).run _ s3 fun G5 H5 e5 s5 => ?_
  have e25 : Same G2 G5 := e3.trans e5
  cases hbb : b s' with
  | true =>
    rw [if_pos rfl]
    refine ⟨fun σ'' H'' => ∃ s G', I s ∧ μ s < μ s' ∧ Same G2 G' ∧ Stt G' (E s) σ'' L0 H'', fun σ'' H'' ⟨s, G'', a, b, c, d⟩ => ⟨μ s, b, s, G'', a, rfl, c, d⟩, ?_⟩
    refine (hb s' hi hbb).run _ s5 fun o ho => ?_
    rcases ho with ⟨s6, i6, m6, rfl⟩ | ⟨hl, hs⟩
    · have k : ∀ G6 σ6 H6, Same G5 G6 → Stt G6 (E s6) σ6 L0 H6 → ∃ s G', I s ∧ μ s < μ s' ∧ Same G2 G' ∧ Stt G' (E s) σ6 L0 H6 := fun G6 σ6 H6 e6 st => ⟨s6, G6, i6, m6, e25.trans e6, st⟩
      exact ⟨k, k⟩
    · have q := (q _ hs).mono (e2.trans e25)
      cases o with
      | nx _ => cases hl
      | go _ => cases hl
      | ct _ => cases hl
      | bk _ => exact q
      | rt _ => exact q
      | ro _ => exact q
      | xc _ _ _ => exact q
  | false =>
    rw [if_neg (by decide)]
    exact q _ (hf s' hi hbb) G5 _ H5 (e2.trans e25) s5⟩
end
end Z

set_option Elab.async false
set_option linter.all false
set_option maxRecDepth 100000
set_option maxHeartbeats 2000000
/-! Zp: texts. -/
namespace Z
open PySem PySem.Spec PyProof.Rows L2
section
variable {K : PySem.W.Frag} {W : WX} {ρ ρ' : List Sl} {te ta tb to : TE} {R : Rp} {B : Bw} {i j : Nat}
def dS (x : Str) : Rp := dat (.str x)
abbrev rAddS : R2 := fun x y H Q => ∃ i j, x = .str i ∧ y = .str j ∧ i.length + j.length ≤ sizeLine ∧ Q (.str (i ++ j)) H
theorem o_addS {a b : Str} (h : a.length + b.length ≤ sizeLine) : Op2 rAddS (pu (dat (.str a))) (pu (dat (.str b))) (dat (.str (a ++ b))) := fun G H L x y Q _ hx hy q => by
  cases hx; cases hy
  exact ⟨a, b, rfl, rfl, h, q _ (Dq.str _)⟩
abbrev cStrI : List V → Hp → VK → Prop := fun xs H Q => ∃ i, xs = [.int i] ∧ i.natAbs.log2 < 1920 ∧ Q (.str (toString i)) H
theorem cl_strI {n : Int} (h : n.natAbs.log2 < 1920) : Cl cStrI [pu (dI n)] (dat (.str (Str.ofString (toString n)))) := fun G H L vs Q l r q => by
  cases r with
  | cons h1 t =>
    cases t; cases h1
    exact ⟨n, rfl, h, q _ (Dq.str _)⟩
abbrev cIntS : List V → Hp → VK → Prop := fun xs H Q => ∃ a n, xs = [.str a] ∧ PySem.intText? a = some n ∧ a.length ≤ 640 ∧ Q (.int n) H
theorem cl_intS {a : Str} {n : Int} (h : PySem.intText? a = some n) (hl : a.length ≤ 640) : Cl cIntS [pu (dat (.str a))] (dI n) := fun G H L vs Q l r q => by
  cases r with
  | cons h1 t =>
    cases t; cases h1
    exact ⟨a, n, rfl, h, hl, q _ (Dq.int _)⟩
abbrev cLenS : List V → Hp → VK → Prop := fun xs H Q => ∃ z, xs = [.str z] ∧ z.length ≤ sizeLine ∧ Q (.int z.length) H
theorem cl_lenStr {a : Str} (hl : a.length ≤ sizeLine) : Cl cLenS [pu (dat (.str a))] (dI a.length) := fun G H L vs Q l r q => by
  cases r with
  | cons h1 t =>
    cases t; cases h1
    exact ⟨a, rfl, hl, q _ (Dq.int _)⟩
abbrev rJoin (K : PySem.W.Frag) : V → List V → Hp → VK → Prop := fun x xs H Q => ∃ a p, ∃ ys : List Str, x = .str a ∧ xs = [.ref p] ∧ (SqL K H p (ys.map V.str) ∨ SqT K H p (ys.map V.str)) ∧ (ys.map (·.length)).sum + ys.length * a.length ≤ 16777216 ∧ Q (.str (Txt.join a ys)) H
abbrev rSplit : V → List V → Hp → VK → Prop := fun x xs H Q => ∃ a b, x = .str a ∧ xs = [.str b] ∧ (b.length == 0) = false ∧ a.length + 2 ≤ sizeLine ∧ rNewStrs (Txt.split a b) H Q
theorem dqAll_strs {G : Hp} : ∀ {vs : List V} {ys : List Str}, DqAll G vs (ys.map PyData.str) → vs = ys.map V.str
  | _, [], h => by cases h; rfl
  | _, y :: ys, h => by
    cases h with
    | cons h1 h2 =>
      cases h1
      rw [dqAll_strs h2]; rfl
theorem dqAll_of_strs {G : Hp} : ∀ (ys : List Str), DqAll G (ys.map V.str) (ys.map PyData.str)
  | [] => .nil
  | y :: ys => .cons (.str y) (dqAll_of_strs ys)
theorem ev_join {a : Str} {ys : List Str} (h : Ev to ρ (pu (dat (.str a)))) (h1 : Ev te ρ (bL (ys.map .str))) (hz : (ys.map (·.length)).sum + ys.length * a.length ≤ 16777216) : Ev (tM1 (rJoin K) to te) ρ (pu (dat (.str (Txt.join a ys)))) := Ev.pure fun Q s q => h.atp s fun G1 H1 v e1 s1 r1 => by
  cases r1
  refine ⟨⟨a, rfl⟩, h1.run _ s1 fun G2 H2 y e2 s2 r2 => ?_⟩
  obtain ⟨L, sl, la⟩ := id s2
  obtain ⟨p, vs, rfl, hv, d⟩ := bl_sq la (r2 G2 L H2 (Same.refl _) sl la)
  have e := dqAll_strs d
  subst e
  exact ⟨a, p, ys, rfl, rfl, .inl (.inl (.inl hv)), hz, q _ _ _ (e1.trans e2) s2 (Dq.str _)⟩
theorem en_split {a b : Str} (h : Ev to ρ (pu (dat (.str a)))) (h1 : Ev te ρ (pu (dat (.str b)))) (hb : (b.length == 0) = false) (hz : a.length + 2 ≤ sizeLine) : EvN (tM1 rSplit to te) ρ ((Txt.split a b).map .str) := ⟨fun Q s q => h.atp s fun G1 H1 v e1 s1 r1 => by
  cases r1
  refine ⟨⟨a, rfl⟩, h1.atp s1 fun G2 H2 y e2 s2 r2 => ?_⟩
  cases r2
  exact ⟨a, b, rfl, rfl, hb, hz, fun p hp => q G2 H2 p _ (e1.trans e2) s2 hp (dqAll_of_strs _)⟩⟩
abbrev rIs0 (f : Str → Bool) : V → List V → Hp → VK → Prop := fun x xs H Q => ∃ a, x = .str a ∧ xs = [] ∧ True ∧ Q (.bl (f a)) H
theorem ev_is0 {f : Str → Bool} {a : Str} (h : Ev to ρ (pu (dat (.str a)))) : Ev (tM0 (rIs0 f) to) ρ (pu (dB (f a))) := Ev.pure fun Q s q => h.atp s fun G1 H1 v e1 s1 r1 => by
  cases r1
  exact ⟨⟨a, rfl⟩, a, rfl, rfl, trivial, q _ _ _ e1 s1 (Dq.bl _)⟩
theorem o_ixStr {z : Str} {n : Int} {c : Nat} (hz : z.length ≤ sizeLine) (h : atI z.cps.toList n = some c) : Op2 rIxS (pu (dat (.str z))) (pu (dI n)) (dat (.str ⟨#[c]⟩)) := fun G H L x y Q _ hx hy q => by
  cases hx; cases hy
  exact ⟨z, n, c, rfl, rfl, hz, h, q _ (Dq.str _)⟩
theorem ev_slS {tl th : TO} {z : Str} {lo hi : Option Int} (h : Ev te ρ (pu (dat (.str z)))) (h1 : EvO tl ρ lo) (h2 : EvO th ρ hi) (hz : z.length ≤ sizeLine) : Ev (tSl rSlS te tl th) ρ (pu (dat (.str (cutS z lo hi)))) := Ev.pure fun Q s q =>
  h.atp s fun G1 H1 v e1 s1 r => h1.run _ s1 fun G2 H2 e2 s2 => h2.run _ s2 fun G3 H3 e3 s3 => by
    cases r
    exact ⟨z, rfl, hz, q _ _ _ ((e1.trans e2).trans e3) s3 (Dq.str _)⟩
theorem o_inS {c : Nat} {z : Str} : Op2 rInS (pu (dat (.str ⟨#[c]⟩))) (pu (dat (.str z))) (dB (decide (c ∈ z.cps.toList))) := fun G H L x y Q _ hx hy q => by
  cases hx; cases hy
  exact ⟨c, z, rfl, rfl, q _ (Dq.bl _)⟩
/-- a walk over a text's signs -/
theorem ei_str {z : Str} (h : Ev te ρ (pu (dat (.str z)))) : EvI K (iStr te) ρ (z.cps.toList.map fun c => .str ⟨#[c]⟩) := ⟨fun Q s q => h.atp s fun G' H' v e s' r => by
  cases r
  refine ⟨z, rfl, q G' H' (Its z) e s' ⟨fun i G L H e2 l hi => ⟨(show i < z.cps.size by simpa using hi), fun x H2 y => ?_⟩, fun i G L H e2 l hi => by show z.cps.size ≤ i; simpa using hi⟩⟩
  obtain ⟨rfl, c, hc, rfl⟩ := y
  refine ⟨G, Same.refl _, fun L l => l, ?_⟩
  have hi' : i < z.cps.size := by simpa using hi
  rw [Array.getElem?_eq_getElem hi'] at hc
  cases hc
  rw [List.getElem_map]
  simp only [Array.getElem_toList]
  exact Dq.str _⟩
/-! ### f-texts -/
inductive EvJ (ρ : List Sl) : List TE → List Str → Prop
  | nil : EvJ ρ [] []
  | cons {t : TE} {ts : List TE} {y : Str} {ys : List Str} (h : Ev t ρ (pu (dat (.str y)))) (r : EvJ ρ ts ys) : EvJ ρ (t :: ts) (y :: ys)
def gluS : Str → List Str → Str
  | acc, [] => acc
  | acc, y :: ys => gluS (acc ++ y) ys
theorem len_app (a b : Str) : (a ++ b).length = a.length + b.length := by
  show (a.cps ++ b.cps).size = a.cps.size + b.cps.size
  exact Array.size_append
theorem evJ_run {ts : List TE} {ys : List Str} (h : EvJ ρ ts ys) : ∀ (acc : Str) {G : Hp} {σ : L2.St} {L0 : List Cell} {H : Hp} (Q : Str → Hp → Prop), Stt G ρ σ L0 H → acc.length + (ys.map (·.length)).sum ≤ sizeLine → (∀ G' H', Same G G' → Stt G' ρ σ L0 H' → Q (gluS acc ys) H') → tJs ts acc σ H Q := by
  induction h with
  | nil => exact fun acc G σ L0 H Q s _ q => q G H (Same.refl _) s
  | @cons t ts y ys h1 _ ih =>
    intro acc G σ L0 H Q s hz q
    refine h1.atp s fun G1 H1 v e1 s1 r1 => ?_
    cases r1
    rw [List.map_cons, List.sum_cons] at hz
    have hl : (acc ++ y).length = acc.length + y.length := len_app acc y
    exact ⟨y, rfl, by omega, ih (acc ++ y) Q s1 (by omega) fun G' H' e' s' => q G' H' (e1.trans e') s'⟩
theorem ev_joined {ts : List TE} {ys : List Str} (h : EvJ ρ ts ys) (hz : (ys.map (·.length)).sum ≤ sizeLine) : Ev (fun σ H Q => tJs ts Str.empty σ H fun out H1 => Q (.str out) H1) ρ (pu (dat (.str (gluS Str.empty ys)))) := Ev.pure fun Q s q =>
  evJ_run h Str.empty _ s (by show 0 + _ ≤ _; omega) fun G' H' e s' => q _ _ _ e s' (Dq.str _)
theorem ev_fmtI {n : Int} (h : Ev te ρ (pu (dI n))) (hn : n.natAbs.log2 < 1920) : Ev (tFmt te) ρ (pu (dat (.str (Str.ofString (toString n))))) := Ev.pure fun Q s q => h.atp s fun G1 H1 v e1 s1 r1 => by
  cases r1
  exact .inr ⟨n, rfl, hn, q _ _ _ e1 s1 (Dq.str _)⟩
/-- x = l.pop(), l an owned list -/
theorem Ex.pop {ds : List PyData} {d : PyData} {T : String} (hi : ρ[i]? = some (.o (oL (ds ++ [d])))) (hT : T = "list") : Ex W (tAsg (tBM0 K T rPop (tVar i)) (gName j)) ρ (.nx ((ρ.set i (.o (oL ds))).set j (.p (dat d)))) := ⟨fun {G σ L0 H} D s q => by
  obtain ⟨a, cs, e, ⟨vs, hcs, hd⟩, hh, k1, _⟩ := s.get_o hi
  subst hcs
  refine ⟨_, e, .inl ⟨hT, vs, .inl (.inl (hh _ (List.mem_cons_self ..)))⟩, ?_⟩
  have hlen := dpAll_len hd
  rw [List.length_append] at hlen
  have hlen : vs.length = ds.length + 1 := hlen
  obtain ⟨y, hy, dy⟩ := dpAll_get (i := ds.length) hd (by rw [List.getElem?_append_right (Nat.le_refl _), Nat.sub_self]; rfl)
  refine ⟨a, vs, y, rfl, rfl, hh _ (List.mem_cons_self ..), by rw [hlen]; exact hy, ?_⟩
  have hd2 : DqAll G vs.dropLast ds := by
    have := dpAll_take ds.length hd
    rw [List.take_left] at this
    rw [List.dropLast_eq_take, hlen]
    exact this
  have s2 := k1 (oL ds) [(a, .lst vs.dropLast)] _ ⟨_, rfl, hd2⟩ fun M l => l.store
  obtain ⟨G2, e2, s3⟩ := s2.set_p (R := dat d) (v := y) dy j
  exact q _ _ _ e2 s3⟩
/-- tuple(l) -/
abbrev cTupOf (K : PySem.W.Frag) : List V → Hp → VK → Prop := fun xs H Q => ∃ p ys, xs = [.ref p] ∧ ((SqL K H p ys ∧ ∀ l, H l = none → Q (.ref l) (upd H l (.tup ys))) ∨ (SqT K H p ys ∧ Q (.ref p) H))
theorem ev_tupOf {ds : List PyData} (h : Ev te ρ (bL ds)) : Ev (tCB (cTupOf K) (tCons te tNil)) ρ (pu (dat (.tuple ds))) := Ev.pure fun Q s q => h.run _ s fun G1 H1 v e1 s1 r => by
  obtain ⟨L, sl, la⟩ := id s1
  obtain ⟨p, vs, rfl, hv, d⟩ := bl_sq la (r G1 L H1 (Same.refl _) sl la)
  refine ⟨p, vs, rfl, .inl ⟨.inl (.inl hv), fun l hl => ?_⟩⟩
  have g := s1.grow (o := .tup vs) hl
  exact q _ _ _ (e1.trans g.1) g.2 (Dq.tup upd_same (dpAll_up g.1 d))
/-- l.count(b), l a list of bools -/
def rCntB : V → List V → Hp → VK → Prop := fun x xs H Q => ∃ (p : Addr) (ns : List Bool) (k : Bool), x = .ref p ∧ xs = [.bl k] ∧ H p = some (.lst (ns.map V.bl)) ∧ Q (.int (countIn (.bool k) (ns.map PyData.bool))) H
theorem vals_bools {hp : Heap} : ∀ {ns : List Bool} {us : List Value}, Vals (ns.map V.bl) us → ∃ as, ReadsAll hp us (ns.map PyData.bool) as
  | [], _, r => by cases r; exact ⟨_, .nil⟩
  | n :: ns, _, r => by
    cases r with
    | cons r1 r2 =>
      cases r1
      obtain ⟨as, h⟩ := vals_bools (hp := hp) r2
      exact ⟨_, .cons (.bool n) h⟩
theorem mt_countB {X : Cx} : MtR X "list.count" rCntB := by
  intro pins s σ H x xs v us Q I rx rxs h
  obtain ⟨p, ns, k, rfl, rfl, hs, q⟩ := h
  cases rx
  obtain ⟨u, rfl, ru⟩ := rxs.one
  cases ru
  obtain ⟨z, its, n, r, hl, e⟩ := I.lstM hs
  obtain ⟨as, ra⟩ := vals_bools (hp := s.heap) r
  refine count_list_bools (l := p) (vs := its) ⟨_, e, rfl, _, rfl⟩ ra ?_ ?_
  · rw [List.all_eq_true]
    intro d hd
    obtain ⟨b, _, rfl⟩ := List.mem_map.mp hd
    rfl
  · exact ⟨.int _, H, I.tok _, ⟨_, rfl⟩, q⟩
theorem ev_cntB {ns : List Bool} {k : Bool} (h : Ev to ρ (bL (ns.map .bool))) : Ev (tBM K "list" rCntB to (tCons (tC (.bl k)) tNil)) ρ (pu (dI (countIn (.bool k) (ns.map PyData.bool)))) := Ev.pure fun Q s q => h.run _ s fun G1 H1 v e1 s1 r => by
  obtain ⟨L, sl, la⟩ := id s1
  obtain ⟨p, vs, rfl, hv, d⟩ := bl_sq la (r G1 L H1 (Same.refl _) sl la)
  have e := dpAll_bools d
  subst e
  exact ⟨.inl ⟨rfl, _, .inl (.inl hv)⟩, p, ns, k, rfl, rfl, hv, q _ _ _ e1 s1 (Dq.int _)⟩
theorem ev_idxB {ns : List Bool} {k : Bool} {j : Nat} (h : Ev to ρ (bL (ns.map .bool))) (hj : ns[j]? = some k) (hm : ∀ m b, m < j → ns[m]? = some b → b ≠ k) : Ev (tBM K "list" (rIndex K) to (tCons (tC (.bl k)) tNil)) ρ (pu (dI (j : Nat))) := Ev.pure fun Q s q => h.run _ s fun G1 H1 v e1 s1 r => by
  obtain ⟨L, sl, la⟩ := id s1
  obtain ⟨p, vs, rfl, hv, d⟩ := bl_sq la (r G1 L H1 (Same.refl _) sl la)
  have e := dpAll_bools d
  subst e
  refine ⟨.inl ⟨rfl, _, .inl (.inl hv)⟩, p, ns.map V.bl, .bl k, j, .bl k, rfl, rfl, .inl (.inl hv), rfl, ?_, by rw [List.getElem?_map, hj]; rfl, by cases k <;> rfl, fun m z hz e => ?_, q _ _ _ e1 s1 (Dq.int _)⟩
  · rw [List.all_eq_true]
    intro z hz
    obtain ⟨b, _, rfl⟩ := List.mem_map.mp hz
    rfl
  · rw [List.getElem?_map] at e
    cases hb : ns[m]? with
    | none => rw [hb] at e; cases e
    | some b =>
      rw [hb] at e
      have e : V.bl b = z := Option.some.inj e
      have hne := hm m b hz hb
      rw [← e]
      cases b <;> cases k <;> first | rfl | exact absurd rfl hne
/-- isinstance(x, T), x a number or a text -/
theorem cl_isS {x : Str} : Cl (rIsi K) [pu (dat (.str x)), pu ⟨fun _ v => v = .ty "str", fun _ h => h⟩] (dB true) := fun G H L vs Q l r q => by
  cases r with
  | cons h1 t =>
    cases t with
    | cons h2 t =>
      cases t; cases h1; cases h2
      exact ⟨_, _, .type "str", .type "str", true, rfl, .ty "str", .base (.str x), kit_ty rfl, q _ (Dq.bl _)⟩
theorem cl_isI {n : Int} : Cl (rIsi K) [pu (dI n), pu ⟨fun _ v => v = .ty "str", fun _ h => h⟩] (dB false) := fun G H L vs Q l r q => by
  cases r with
  | cons h1 t =>
    cases t with
    | cons h2 t =>
      cases t; cases h1; cases h2
      exact ⟨_, _, .type "int", .type "str", false, rfl, .ty "str", .base (.int n), kit_ty (by decide), q _ (Dq.bl _)⟩
theorem kcall_isi (K : PySem.W.Frag) {X : Cx} (h : X.K = K := by rfl) : CallR X (.builtin "isinstance") (rIsi K) := by subst h; exact call_isi
theorem kcall_tuple (K : PySem.W.Frag) {X : Cx} (h : X.K = K := by rfl) : CallR X (.type "tuple") (cTupOf K) := by subst h; exact call_tuple_of
theorem kmt_index (K : PySem.W.Frag) {X : Cx} (h : X.K = K := by rfl) : MtR X "list.index" (rIndex K) := by subst h; exact mt_index
theorem kpe_join (K : PySem.W.Frag) {X : Cx} {o e : Expr} {to te : TE} {apos pos : Pos} (ho : PE X o to) (he : PE X e te) (hs : starEach [e] X.env = [(false, eval e X.env)] := by rfl) (hbase : attributeBase o "join" X.env (eval o X.env) = eval o X.env := by rfl) (hline : (apos.endLine == pos.line) = true := by rfl) (h : X.K = K := by rfl) :
    PE X (.Call (.Attribute o "join" apos) [e] [] pos) (tM1 (rJoin K) to te) := by subst h; exact pe_join ho he hs hbase hline
/-- text * n -/
abbrev rMulS : R2 := fun x y H Q => ∃ a n, x = .str a ∧ y = .int n ∧ MulOk a n ∧ Q (.str (Txt.mul a n)) H
theorem op_mulS {X : Cx} : OpR X (binaryOp .Mult) rMulS := by
  intro pins s σ H x y v u Q I rx ry h
  obtain ⟨a, n, rfl, rfl, hok, q⟩ := h
  obtain ⟨t, rfl⟩ := rx
  obtain ⟨t', rfl⟩ := ry
  exact SB.mul hok fun t' k => ⟨.str (Txt.mul a n), H, I.tok _, ⟨_, rfl⟩, q⟩
theorem o_mulS {a : Str} {n : Int} (h : MulOk a n) : Op2 rMulS (pu (dat (.str a))) (pu (dI n)) (dat (.str (Txt.mul a n))) := fun G H L x y Q _ hx hy q => by
  cases hx; cases hy
  exact ⟨a, n, rfl, rfl, h, q _ (Dq.str _)⟩
end
end Z

set_option Elab.async false
set_option linter.all false
set_option maxRecDepth 100000
set_option maxHeartbeats 2000000
/-! Zq: lists taken apart, a list's truth, None in a list. -/
namespace Z
open PySem PySem.Spec PyProof.Rows L2
section
variable {K : PySem.W.Frag} {W : WX} {ρ ρ' : List Sl} {te ta tb to : TE} {R : Rp} {B : Bw} {i j : Nat}
theorem kpg_lst (K : PySem.W.Frag) {X : Cx} {es : List Expr} {k n : Nat} {t : TGs} {pos : Pos} (hc : X.calm = true) (hp : PGs X es t) (hn : (assignEach es X.env).length = n := by rfl) (hst : (assignEach es X.env).findIdx? (·.1) = none := by rfl) (h : X.K = K := by rfl) : PG X (.Tuple es k pos) (gLst K n t) := by
  subst h; exact pg_lst hc hp hn hst
theorem eg_lst {n : Nat} {gs : TGs} {T : List Nat} {ds : List PyData} (h : EvGs gs T ρ ds ρ') (hn : ds.length = n) : EvG (gLst K n gs) T ρ (dat (.list ds)) ρ' := ⟨fun v Q s r q => by
  have r : Dq _ v (.list ds) := r
  cases r with
  | lst a b => exact ⟨_, _, rfl, .inl (.inl (s.same _ _ a)), by rw [dpAll_len b]; exact hn, h.run _ Q s b q⟩⟩
abbrev tTruth (K : PySem.W.Frag) (te : TE) : TT := fun σ H Q => te σ H fun x H' => ∃ k, TruV K x H' k ∧ Q k H'
theorem et_truthL {ds : List PyData} (h : Ev te ρ (bL ds)) : EvT (tTruth K te) ρ (!ds.isEmpty) := ⟨fun Q s q => h.run _ s fun G1 H1 v e1 s1 r => by
  obtain ⟨L, sl, la⟩ := id s1
  obtain ⟨p, vs, rfl, hv, d⟩ := bl_sq la (r G1 L H1 (Same.refl _) sl la)
  refine ⟨!ds.isEmpty, .inl ⟨vs, .inl (.inl hv), ?_⟩, q _ _ e1 s1⟩
  cases d <;> rfl⟩
def oD : Option Int → PyData
  | none => .none
  | some n => .int n
theorem o_inNone {os : List (Option Int)} : Op2 (rIn K false) (pu (dat .none)) (bL (os.map oD)) (dB (os.any Option.isNone)) := fun G H L x y Q l hx hy q => by
  cases hx
  obtain ⟨p, vs, rfl, hv, d⟩ := bl_sq l hy
  have key : ∀ {vs : List V} {os : List (Option Int)}, DqAll G vs (os.map oD) → vs.all flatV = true ∧ inV .non vs = os.any Option.isNone := by
    intro vs os
    induction os generalizing vs with
    | nil => intro r; cases r; exact ⟨rfl, rfl⟩
    | cons o os ih =>
      intro r
      cases r with
      | cons r1 r2 =>
        have i2 := ih r2
        cases o with
        | none =>
          cases r1
          exact ⟨by rw [List.all_cons, i2.1, Bool.and_true]; rfl, rfl⟩
        | some n =>
          cases r1
          refine ⟨by rw [List.all_cons, i2.1, Bool.and_true]; rfl, ?_⟩
          show inV .non (V.int n :: _) = (false || os.any Option.isNone)
          rw [← i2.2]
          unfold inV
          rw [List.any_cons]
          rfl
  have k := key d
  exact ⟨p, vs, rfl, .inl (.inl (.inl hv)), rfl, k.1, by rw [if_neg (by decide), k.2]; exact q _ (Dq.bl _)⟩
theorem kpe_bm (K : PySem.W.Frag) {X : Cx} {o e : Expr} {es : List Expr} {to : TE} {t : TA} {name : Str} {apos cpos : Pos} {T id : String} {r : V → List V → Hp → VK → Prop} (pa : PlainAttrs T) (slot : Slot T name id) (hty : typeOf (.builtin id) = pure (.type "method_descriptor")) (hm : MtR X id r) (ho : PE X o to) (ha : PA X (e :: es) t)
    (h1 : attributeBase o name X.env (eval o X.env) = eval o X.env := by rfl) (h2 : ((backTo cpos (starEach (e :: es) X.env)).all (fun x => !x.1) && (backToKw cpos (keywordEach [] X.env)).all (fun x => x.1.isSome) && decide ((e :: es).length + ([] : List Keyword).length + (if ([] : List Keyword).isEmpty then 0 else 1) < 30)) = true := by rfl) (h3 : (apos.endLine == cpos.line) = true := by rfl)
    (h4 : starEach (e :: es) X.env = (false, eval e X.env) :: starEach es X.env := by rfl) (h5 : (backTo cpos (starEach es X.env)).any (·.1) = false := by rfl) (h : X.K = K := by rfl) : PE X (.Call (.Attribute o name apos) (e :: es) [] cpos) (tBM K T r to t) := by
  subst h; exact pe_bm pa slot hty hm ho ha h1 h2 h3 h4 h5
theorem ex_opL {C : Addr} {n : Int} {r : R2} (h : EvX W ta ρ C n) : EvX W (tOp r ta tb) ρ C n := ⟨fun Q s q => h.run _ s q⟩
theorem Ex.appendX {C : Addr} {n : Int} {ds : List PyData} {T : String} (hi : ρ[i]? = some (.o (oL ds))) (he : EvX W te ρ C n) (hT : T = "list") : Ex W (tDrop (tBM K T rAppend (tVar i) (tCons te tNil))) ρ (.xc ρ C n) := ⟨fun {G σ L0 H} D s q => by
  obtain ⟨a, cs, e, ⟨vs, hcs, hd⟩, hh, _⟩ := s.get_o hi
  subst hcs
  exact ⟨_, e, .inl ⟨hT, vs, .inl (.inl (hh _ (List.mem_cons_self ..)))⟩, he.run _ s fun G' H' d e s' hd => q G' _ H' d e s' hd⟩⟩
end
end Z

set_option Elab.async false
set_option linter.all false
set_option maxRecDepth 100000
set_option maxHeartbeats 4000000
namespace QT
open PySem PySem.Spec PyProof.Rows L2 TL
/-! ### numbers as words -/
def isD (c : Nat) : Bool := decide (48 ≤ c) && decide (c ≤ 57)
theorem uniDig {c : Nat} (h : c < 128) : Unicode.isDigit c = isD c := by
  have k : ∀ n : _root_.Fin 128, Unicode.isDigit n.val = isD n.val := by decide +kernel
  exact k ⟨c, h⟩
def digits (w : Str) : Bool := decide (tl w ≠ []) && (tl w).all isD
theorem asc_dig (w : Str) : (Txt.isascii w && Txt.isdigit w) = digits w := by
  unfold Txt.isascii Txt.isdigit digits
  have e1 : ∀ p : Nat → Bool, w.cps.all p = (tl w).all p := fun p => (Array.all_toList).symm
  rw [e1, e1]
  have e2 : decide (w.length > 0) = decide (tl w ≠ []) := by
    rw [len_tl w]
    cases tl w <;> simp
  rw [e2]
  generalize tl w = l
  have key : ∀ l : List Nat, (l.all (fun c => decide (c < 128)) && l.all Unicode.isDigit) = l.all isD := by
    intro l
    induction l with
    | nil => rfl
    | cons c l ih =>
      rw [List.all_cons, List.all_cons, List.all_cons, ← ih]
      by_cases h : c < 128
      · rw [uniDig h, decide_eq_true h]
        cases isD c <;> cases l.all (fun c => decide (c < 128)) <;> cases l.all Unicode.isDigit <;> rfl
      · have : isD c = false := by
          unfold isD
          rw [decide_eq_false (p := c ≤ 57) (by omega), Bool.and_false]
        rw [this, decide_eq_false h]
        rfl
  rw [← key]
  cases decide (l ≠ []) <;> cases l.all (fun c => decide (c < 128)) <;> cases l.all Unicode.isDigit <;> rfl
def numOk (w : Str) : Bool := digits w && (decide (w.length ≤ 7) && (decide (w.length = 1) || decide ((tl w)[0]? ≠ some 48)))
def numV (w : Str) : Int := ((NumText.digitsVal (tl w) : Nat) : Int)
theorem digits_all {w : Str} (h : digits w = true) : NumText.AllDigits (tl w) ∧ tl w ≠ [] := by
  unfold digits at h
  rw [Bool.and_eq_true, decide_eq_true_eq, List.all_eq_true] at h
  refine ⟨fun c hc => ?_, h.1⟩
  have := h.2 c hc
  unfold isD at this
  rw [Bool.and_eq_true, decide_eq_true_eq, decide_eq_true_eq] at this
  exact this
theorem numOk_parts {w : Str} (h : numOk w = true) : (NumText.AllDigits (tl w) ∧ tl w ≠ []) ∧ w.length ≤ 7 ∧ (w.length = 1 ∨ (tl w)[0]? ≠ some 48) := by
  unfold numOk at h
  rw [Bool.and_eq_true, Bool.and_eq_true, Bool.or_eq_true, decide_eq_true_eq, decide_eq_true_eq, decide_eq_true_eq] at h
  exact ⟨digits_all h.1, h.2⟩
theorem num_int {w : Str} (h : numOk w = true) : PySem.intText? w = some (numV w) := intText_digits (numOk_parts h).1.1 (numOk_parts h).1.2 (Nat.le_trans (numOk_parts h).2.1 (by decide))
theorem map_ofNat {l : List Nat} (h : NumText.AllDigits l) : (l.map Char.ofNat).map Char.toNat = l := by
  rw [List.map_map]
  conv => rhs; rw [← List.map_id l]
  refine List.map_congr_left fun c hc => ?_
  have hc := h c hc
  have k : ∀ n : _root_.Fin 58, (Char.ofNat n.val).toNat = n.val := by decide +kernel
  exact k ⟨c, by omega⟩
theorem num_back {w : Str} (h : numOk w = true) : numL (numV w).toNat = tl w := by
  obtain ⟨⟨h1, h2⟩, h3, h4⟩ := numOk_parts h
  unfold numV
  rw [Int.toNat_natCast]
  unfold numL
  obtain ⟨c, r, e⟩ := List.exists_cons_of_ne_nil h2
  rw [NumText.toDigits_digitsVal r.length (tl w) (by rw [e]; rfl) h1 ?_, map_ofNat h1]
  rcases h4 with h4 | h4
  · left
    rw [len_tl w, e] at h4
    simpa using h4
  · right
    refine ⟨c, r, e, ?_⟩
    have hc := h1 c (by rw [e]; exact List.mem_cons_self ..)
    rw [e] at h4
    have : c ≠ 48 := fun z => h4 (by rw [z]; rfl)
    omega
theorem numL_head : ∀ n : Nat, 1 ≤ n → (numL n)[0]? ≠ some 48 := by
  intro n
  induction n using Nat.strongRecOn with
  | _ n ih =>
    intro hn
    by_cases h : n < 10
    · rw [numL_lt h]
      intro z
      have : 48 + n = 48 := Option.some.inj z
      omega
    · rw [numL_step (by omega)]
      have := ih (n / 10) (by omega) (by omega)
      obtain ⟨c, r, e⟩ := List.exists_cons_of_ne_nil (numL_ne (n / 10))
      rw [e] at this ⊢
      exact this
def nS (n : Nat) : Str := ⟨(numL n).toArray⟩
theorem tl_nS (n : Nat) : tl (nS n) = numL n := rfl
theorem str_nS (n : Int) (h : 0 ≤ n) : Str.ofString (toString n) = nS n.toNat := by
  refine ext_tl ?_
  rw [tl_nS, ← tl_num, Int.toNat_of_nonneg h]
theorem nS_ok {n : Nat} (h : n < 10 ^ 7) : numOk (nS n) = true ∧ numV (nS n) = (n : Int) := by
  refine ⟨?_, ?_⟩
  · have hl : (nS n).length = (numL n).length := len_tl _
    unfold numOk digits
    rw [hl, tl_nS, decide_eq_true (numL_ne n), decide_eq_true (numL_len (by decide) h)]
    have e1 : (numL n).all isD = true := by
      rw [List.all_eq_true]
      intro c hc
      have := numL_digits n c hc
      unfold isD
      rw [decide_eq_true this.1, decide_eq_true this.2]; rfl
    rw [e1]
    by_cases z : n = 0
    · subst z; decide
    · rw [decide_eq_true (p := (numL n)[0]? ≠ some 48) (numL_head n (by omega)), Bool.or_true]; rfl
  · unfold numV
    rw [tl_nS, numL_val]
/-! ### splitting -/
theorem spl_ne (S : List Nat) : ∀ (l : List Nat) (k : Nat) (acc : List Nat), spl S k acc l ≠ []
  | [], k, acc => by rw [spl_nil]; simp
  | c :: r, 0, acc => by
    cases h : pre S (c :: r) with
    | true => rw [spl_hit h]; simp
    | false => rw [spl_miss h]; exact spl_ne S r 0 _
  | c :: r, k + 1, acc => spl_ne S r k acc
theorem pre_one (s c : Nat) (r : List Nat) : pre [s] (c :: r) = (c == s) := by
  unfold pre
  show ([c] == [s]) = _
  by_cases h : c = s
  · subst h; simp
  · simp [h]
theorem join_spl (s : Nat) : ∀ (l acc : List Nat), joinL [s] (spl [s] 0 acc l) = acc ++ l
  | [], acc => by rw [spl_nil, List.append_nil]; rfl
  | c :: r, acc => by
    cases h : pre [s] (c :: r) with
    | true =>
      rw [spl_hit h]
      have hc : c = s := by rw [pre_one] at h; simpa using h
      obtain ⟨p, q, e⟩ := List.exists_cons_of_ne_nil (spl_ne [s] r 0 [])
      have ih := join_spl s r []
      show joinL [s] (acc :: spl [s] 0 [] r) = _
      rw [e] at ih ⊢
      show acc ++ ([s] ++ joinL [s] (p :: q)) = _
      rw [ih, hc]
      simp
    | false =>
      rw [spl_miss h, join_spl s r, List.append_assoc]
      rfl
def sepS (s : Nat) : Str := ⟨#[s]⟩
theorem split_eq (x : Str) {s : Nat} (hs : s < 256) : (Txt.split x (sepS s)).map tl = spl [s] 0 [] (tl x) :=
  split_spl x (sepS s) (by show [s] ≠ []; simp) (kind_ok (by show #[s].all (· < 256) = true; simpa using hs))
theorem split_back (x : Str) {s : Nat} (hs : s < 256) : tl x = joinL [s] ((Txt.split x (sepS s)).map tl) := by
  rw [split_eq x hs, join_spl]; rfl
theorem split_ne (x : Str) {s : Nat} (hs : s < 256) : Txt.split x (sepS s) ≠ [] := fun z => by
  have := split_eq x hs
  rw [z] at this
  exact spl_ne _ _ _ _ this.symm
theorem split_of {x : Str} {s : Nat} (hs : s < 256) {parts : List (List Nat)} (hne : parts ≠ []) (hp : ∀ p ∈ parts, s ∉ p) (e : tl x = joinL [s] parts) : Txt.split x (sepS s) = parts.map fun p => ⟨p.toArray⟩ := by
  refine map_tl_inj ?_
  rw [split_eq x hs, e, spl_join hne hp, List.map_map]
  exact (List.map_id _).symm.trans (List.map_congr_left fun p _ => rfl)
/-! ### rows -/
def rowOf (head : Str) (many : Nat) (line : Str) : Option (List Int) := if (Txt.split line (sepS 32))[0]? = some head ∧ (Txt.split line (sepS 32)).length = many + 1 ∧ (Txt.split line (sepS 32)).tail.all numOk = true then some ((Txt.split line (sepS 32)).tail.map numV) else none
abbrev E3 := Int × Int × Int
def headW : Str := "network"
def edgeW : Str := "edge"
def headL (n : Int) : List Nat := tl headW ++ 32 :: numL n.toNat
def edgeL (e : E3) : List Nat := tl edgeW ++ 32 :: (numL e.1.toNat ++ 32 :: (numL e.2.1.toNat ++ 32 :: numL e.2.2.toNat))
theorem row_back {head line : Str} {many : Nat} {ns : List Int} (h : rowOf head many line = some ns) : ns.length = many ∧ (∀ n ∈ ns, 0 ≤ n) ∧ tl line = joinL [32] (tl head :: ns.map fun n => numL n.toNat) := by
  unfold rowOf at h
  split at h
  · next c =>
    obtain ⟨c1, c2, c3⟩ := c
    cases h
    have hb := split_back line (s := 32) (by decide)
    generalize Txt.split line (sepS 32) = ws at c1 c2 c3 hb
    cases ws with
    | nil => cases c1
    | cons w ws =>
      have c1 : w = head := Option.some.inj c1
      subst c1
      refine ⟨by rw [List.tail_cons, List.length_map]; simpa using c2, ?_, ?_⟩
      · intro n hn
        obtain ⟨w, _, rfl⟩ := List.mem_map.mp hn
        exact Int.natCast_nonneg _
      · rw [hb, List.map_cons, List.tail_cons, List.map_map]
        congr 1
        congr 1
        refine List.map_congr_left fun w hw => ?_
        exact (num_back (List.all_eq_true.mp c3 w hw)).symm
  · cases h
theorem row_fwd {head line : Str} {ns : List Nat} (hh : 32 ∉ tl head) (hn : ∀ n ∈ ns, n < 10 ^ 7) (e : tl line = joinL [32] (tl head :: ns.map numL)) : rowOf head ns.length line = some (ns.map fun (n : Nat) => (n : Int)) := by
  have hs := split_of (x := line) (s := 32) (by decide) (parts := tl head :: ns.map numL) (by simp) (fun p hp => by
    rcases List.mem_cons.mp hp with rfl | hp
    · exact hh
    · obtain ⟨n, _, rfl⟩ := List.mem_map.mp hp
      exact numL_free (by decide)) e
  have hs : Txt.split line (sepS 32) = head :: ns.map nS := by
    rw [hs, List.map_cons, mk_tl, List.map_map]
    rfl
  have h3 : (head :: ns.map nS).tail.all numOk = true := by
    rw [List.tail_cons, List.all_eq_true]
    intro w hw
    obtain ⟨n, h, rfl⟩ := List.mem_map.mp hw
    exact (nS_ok (hn n h)).1
  unfold rowOf
  rw [hs, if_pos ⟨rfl, by simp, h3⟩, List.tail_cons, List.map_map]
  congr 1
  exact List.map_congr_left fun n h => (nS_ok (hn n h)).2
/-! ### texts -/
def isEnds (n u v : Int) : Bool := (decide (0 ≤ u) && decide (u < n)) && ((decide (0 ≤ v) && decide (v < n)) && !decide (u = v))
def isPrice (p : Int) : Bool := decide (0 ≤ p) && decide (p ≤ 1048576)
def isSize (n : Int) : Bool := decide (1 ≤ n) && decide (n ≤ 40)
inductive RK where
  | line | vertex | price | many
def edgeOf (n : Int) (l : Str) : Sum RK E3 := match rowOf edgeW 3 l with
  | some [u, v, p] => if isEnds n u v = true then (if isPrice p = true then .inr (u, v, p) else .inl .price) else .inl .vertex
  | _ => .inl .line
def readEs (n : Int) : Nat → List Str → List E3 → Sum (RK × Nat) (List E3)
  | _, [], es => .inr es
  | at_, l :: r, es => match edgeOf n l with
    | .inl k => .inl (k, at_)
    | .inr e => if es.length = 200 then .inl (.many, at_) else readEs n (at_ + 1) r (es ++ [e])
def readL (ls : List Str) : Sum (RK × Nat) (Int × List E3) := match ls.dropLast with
  | [] => .inl (.line, 0)
  | l0 :: r => match rowOf headW 1 l0 with
    | some [n] => if isSize n = true then (match readEs n 1 r [] with
        | .inl e => .inl e
        | .inr es => if ls.getLast? = some Str.empty then .inr (n, es) else .inl (.line, (l0 :: r).length)) else .inl (.vertex, 0)
    | _ => .inl (.line, 0)
def readT (t : Str) : Sum (RK × Nat) (Int × List E3) := readL (Txt.split t (sepS 10))
def linesL (n : Int) (es : List E3) : List (List Nat) := headL n :: es.map edgeL
def netL (n : Int) (es : List E3) : List Nat := ((linesL n es).map (· ++ [10])).flatten
def netS (n : Int) (es : List E3) : Str := ⟨(netL n es).toArray⟩
theorem join_end (s : Nat) : ∀ ls : List (List Nat), joinL [s] (ls ++ [[]]) = (ls.map (· ++ [s])).flatten
  | [] => rfl
  | [l] => by
    show l ++ ([s] ++ []) = (l ++ [s]) ++ []
    simp
  | l :: m :: r => by
    have ih := join_end s (m :: r)
    show l ++ ([s] ++ joinL [s] (m :: (r ++ [[]]))) = (l ++ [s]) ++ ((m :: r).map (· ++ [s])).flatten
    rw [← ih, List.append_assoc]
    rfl
theorem edge_back {n : Int} {l : Str} {e : E3} (h : edgeOf n l = .inr e) : tl l = edgeL e ∧ isEnds n e.1 e.2.1 = true ∧ isPrice e.2.2 = true := by
  unfold edgeOf at h
  split at h
  · next u v p hr =>
    split at h
    · next c1 =>
      split at h
      · next c2 =>
        cases h
        exact ⟨(row_back hr).2.2, c1, c2⟩
      · cases h
    · cases h
  · cases h
theorem es_back {n : Int} : ∀ {ls : List Str} {k : Nat} {acc es : List E3}, readEs n k ls acc = .inr es → ∃ es', es = acc ++ es' ∧ ls.map tl = es'.map edgeL ∧ (∀ e ∈ es', isEnds n e.1 e.2.1 = true ∧ isPrice e.2.2 = true) ∧ (acc.length ≤ 200 → es.length ≤ 200)
  | [], k, acc, es, h => by
    cases h
    exact ⟨[], (List.append_nil _).symm, rfl, (fun e he => by cases he), fun z => z⟩
  | l :: r, k, acc, es, h => by
    unfold readEs at h
    split at h
    · cases h
    · next e he =>
      split at h
      · cases h
      · next hc =>
        obtain ⟨es', h1, h2, h3, h4⟩ := es_back h
        have hb := edge_back he
        refine ⟨e :: es', by rw [h1, List.append_assoc]; rfl, by rw [List.map_cons, List.map_cons, h2, hb.1], fun e' he' => ?_, fun z => h4 (by rw [List.length_append]; show acc.length + 1 ≤ 200; omega)⟩
        rcases List.mem_cons.mp he' with rfl | he'
        · exact hb.2
        · exact h3 e' he'
structure FineT (n : Int) (es : List E3) : Prop where
  size : isSize n = true
  len : es.length ≤ 200
  good : ∀ e ∈ es, isEnds n e.1 e.2.1 = true ∧ isPrice e.2.2 = true
/-- what is read is written so -/
theorem read_back {t : Str} {n : Int} {es : List E3} (h : readT t = .inr (n, es)) : t = netS n es ∧ FineT n es := by
  unfold readT readL at h
  split at h
  · cases h
  · next l0 r hd =>
    split at h
    · next m hr =>
      split at h
      · next hs =>
        split at h
        · cases h
        · next es' he =>
          split at h
          · next hl =>
            cases h
            obtain ⟨es2, h1, h2, h3, h4⟩ := es_back he
            rw [List.nil_append] at h1
            subst h1
            refine ⟨?_, hs, h4 (by decide), h3⟩
            have hb := split_back t (s := 10) (by decide)
            have hne := split_ne t (s := 10) (by decide)
            generalize Txt.split t (sepS 10) = ls at hd hl hb hne
            have e1 := List.dropLast_concat_getLast hne
            have e2 : ls.getLast hne = Str.empty := by
              rw [List.getLast?_eq_some_getLast hne] at hl
              exact Option.some.inj hl
            rw [hd, e2] at e1
            refine ext_tl ?_
            rw [hb, ← e1, List.map_append]
            show joinL [10] ((l0 :: r).map tl ++ [[]]) = _
            rw [join_end, List.map_cons, (row_back hr).2.2, h2]
            rfl
          · cases h
      · cases h
    · cases h
theorem ends_lt {n u v : Int} (h : isEnds n u v = true) : 0 ≤ u ∧ u < n ∧ 0 ≤ v ∧ v < n := by
  unfold isEnds at h
  simp only [Bool.and_eq_true, decide_eq_true_eq] at h
  exact ⟨h.1.1, h.1.2, h.2.1.1, h.2.1.2⟩
theorem price_le {p : Int} (h : isPrice p = true) : 0 ≤ p ∧ p ≤ 1048576 := by
  unfold isPrice at h
  simpa using h
theorem size_le {n : Int} (h : isSize n = true) : 1 ≤ n ∧ n ≤ 40 := by
  unfold isSize at h
  simpa using h
theorem edge_fwd {n : Int} (hn : n ≤ 40) {e : E3} (h : isEnds n e.1 e.2.1 = true) (h2 : isPrice e.2.2 = true) {l : Str} (hl : tl l = edgeL e) : edgeOf n l = .inr e := by
  obtain ⟨u, v, p⟩ := e
  have a := ends_lt h
  have b := price_le h2
  have a : 0 ≤ u ∧ u < n ∧ 0 ≤ v ∧ v < n := a
  have b : 0 ≤ p ∧ p ≤ 1048576 := b
  have hr := row_fwd (head := edgeW) (line := l) (ns := [u.toNat, v.toNat, p.toNat]) (by decide) (fun n hn => by
    rcases List.mem_cons.mp hn with rfl | hn
    · omega
    · rcases List.mem_cons.mp hn with rfl | hn
      · omega
      · rcases List.mem_cons.mp hn with rfl | hn
        · omega
        · cases hn) hl
  have hr : rowOf edgeW 3 l = some [u, v, p] := by
    have e1 : (([u.toNat, v.toNat, p.toNat] : List Nat).map fun (n : Nat) => (n : Int)) = [u, v, p] := by
      show [((u.toNat : Nat) : Int), ((v.toNat : Nat) : Int), ((p.toNat : Nat) : Int)] = _
      rw [Int.toNat_of_nonneg a.1, Int.toNat_of_nonneg a.2.2.1, Int.toNat_of_nonneg b.1]
    rw [← e1]
    exact hr
  unfold edgeOf
  rw [hr]
  show (if isEnds n u v = true then _ else _) = _
  rw [if_pos h, if_pos h2]
theorem es_fwd {n : Int} (hn : n ≤ 40) : ∀ {es : List E3} {ls : List Str} {k : Nat} {acc : List E3}, (∀ e ∈ es, isEnds n e.1 e.2.1 = true ∧ isPrice e.2.2 = true) → ls.map tl = es.map edgeL → acc.length + es.length ≤ 200 → readEs n k ls acc = .inr (acc ++ es)
  | [], [], k, acc, _, _, _ => by rw [List.append_nil]; rfl
  | [], _ :: _, _, _, _, h, _ => by simp at h
  | _ :: _, [], _, _, _, h, _ => by simp at h
  | e :: es, l :: ls, k, acc, h, h2, h3 => by
    rw [List.map_cons, List.map_cons] at h2
    obtain ⟨h4, h5⟩ := List.cons.inj h2
    rw [List.length_cons] at h3
    unfold readEs
    rw [edge_fwd hn (h e (List.mem_cons_self ..)).1 (h e (List.mem_cons_self ..)).2 h4]
    show (if acc.length = 200 then _ else _) = _
    rw [if_neg (by omega), es_fwd hn (fun e he => h e (List.mem_cons_of_mem _ he)) h5 (by rw [List.length_append]; show acc.length + 1 + _ ≤ _; omega), List.append_assoc]
    rfl
theorem read_fwd {n : Int} {es : List E3} (F : FineT n es) : readT (netS n es) = .inr (n, es) := by
  have hsz := size_le F.size
  have hnum : ∀ k : Nat, (10 : Nat) ∉ numL k := fun k => numL_free (by decide)
  have hs := split_of (x := netS n es) (s := 10) (by decide) (parts := linesL n es ++ [[]]) (by simp) (fun p hp => by
    rcases List.mem_append.mp hp with hp | hp
    · rcases List.mem_cons.mp hp with rfl | hp
      · unfold headL
        intro z
        rcases List.mem_append.mp z with z | z
        · exact absurd z (by decide)
        · rcases List.mem_cons.mp z with z | z
          · exact absurd z (by decide)
          · exact hnum _ z
      · obtain ⟨e, _, rfl⟩ := List.mem_map.mp hp
        unfold edgeL
        intro z
        rcases List.mem_append.mp z with z | z
        · exact absurd z (by decide)
        · rcases List.mem_cons.mp z with z | z
          · exact absurd z (by decide)
          · rcases List.mem_append.mp z with z | z
            · exact hnum _ z
            · rcases List.mem_cons.mp z with z | z
              · exact absurd z (by decide)
              · rcases List.mem_append.mp z with z | z
                · exact hnum _ z
                · rcases List.mem_cons.mp z with z | z
                  · exact absurd z (by decide)
                  · exact hnum _ z
    · rw [List.mem_singleton.mp hp]; simp) (by rw [join_end]; rfl)
  unfold readT
  rw [hs, List.map_append]
  unfold readL
  have e1 : ((linesL n es).map (fun p => (⟨p.toArray⟩ : Str)) ++ [[]].map fun p => (⟨p.toArray⟩ : Str)).dropLast = ⟨(headL n).toArray⟩ :: (es.map edgeL).map fun p => ⟨p.toArray⟩ := by
    rw [List.map_singleton, List.dropLast_concat]; rfl
  have e2 : ((linesL n es).map (fun p => (⟨p.toArray⟩ : Str)) ++ [[]].map fun p => (⟨p.toArray⟩ : Str)).getLast? = some Str.empty := by
    rw [List.map_singleton, List.getLast?_concat]; rfl
  rw [e1]
  have hr : rowOf headW 1 ⟨(headL n).toArray⟩ = some [n] := by
    have := row_fwd (head := headW) (line := ⟨(headL n).toArray⟩) (ns := [n.toNat]) (by decide) (fun k hk => by rw [List.mem_singleton.mp hk]; omega) rfl
    have e : ([n.toNat].map fun (n : Nat) => (n : Int)) = [n] := by
      show [((n.toNat : Nat) : Int)] = _
      rw [Int.toNat_of_nonneg (by omega)]
    rw [← e]
    exact this
  show (match rowOf headW 1 ⟨(headL n).toArray⟩ with | some [n] => _ | _ => _) = _
  rw [hr]
  show (if isSize n = true then _ else _) = _
  rw [if_pos F.size, es_fwd (es := es) hsz.2 F.good (by rw [List.map_map]; exact (List.map_id _).symm.trans (List.map_congr_left fun p _ => rfl) |>.symm) (by show 0 + _ ≤ _; have := F.len; omega)]
  show (if _ = some Str.empty then _ else _) = _
  rw [if_pos e2]
  rfl
end QT

set_option Elab.async false
set_option linter.all false
set_option maxRecDepth 100000
set_option maxHeartbeats 4000000
namespace Q
open PySem PySem.Spec PyProof.Rows L2 Z QT TL
def topS (i : Nat) : Stmt := PySem.Challenge.pw_trunkweb_k01_texts_of_networks.main.body.getD i (.Pass ⟨0, 0, 0, 0⟩)
abbrev s_wall : Stmt := topS 0
abbrev N_wall : List Str := ["k"]
theorem sc_wall : FnScope ["k"] ["k"] (defScope s_wall) := ⟨rfl, rfl, rfl, by decide +kernel, rfl, by decide +kernel, by decide +kernel⟩
abbrev s_WebError___init__ : Stmt := inClass (topS 2) 0
abbrev N_WebError___init__ : List Str := ["self", "at"]
theorem sc_WebError___init__ : FnScope ["self", "at"] ["self", "at"] (defScope s_WebError___init__) := ⟨rfl, rfl, rfl, by decide +kernel, rfl, by decide +kernel, by decide +kernel⟩
abbrev s_is_size : Stmt := topS 12
abbrev N_is_size : List Str := ["size"]
theorem sc_is_size : FnScope ["size"] ["size"] (defScope s_is_size) := ⟨rfl, rfl, rfl, by decide +kernel, rfl, by decide +kernel, by decide +kernel⟩
abbrev s_is_price : Stmt := topS 13
abbrev N_is_price : List Str := ["price"]
theorem sc_is_price : FnScope ["price"] ["price"] (defScope s_is_price) := ⟨rfl, rfl, rfl, by decide +kernel, rfl, by decide +kernel, by decide +kernel⟩
abbrev s_are_ends : Stmt := topS 14
abbrev N_are_ends : List Str := ["size", "u", "v"]
theorem sc_are_ends : FnScope ["size", "u", "v"] ["size", "u", "v"] (defScope s_are_ends) := ⟨rfl, rfl, rfl, by decide +kernel, rfl, by decide +kernel, by decide +kernel⟩
abbrev s_Network___init__ : Stmt := inClass (topS 15) 0
abbrev N_Network___init__ : List Str := ["self", "size", "edges", "number", "u", "v", "price"]
theorem sc_Network___init__ : FnScope ["self", "size", "edges", "number", "u", "v", "price"] ["self", "size", "edges"] (defScope s_Network___init__) := ⟨rfl, rfl, rfl, by decide +kernel, rfl, by decide +kernel, by decide +kernel⟩
abbrev s_Network_size : Stmt := inClass (topS 15) 1
abbrev N_Network_size : List Str := ["self"]
theorem sc_Network_size : FnScope ["self"] ["self"] (defScope s_Network_size) := ⟨rfl, rfl, rfl, by decide +kernel, rfl, by decide +kernel, by decide +kernel⟩
abbrev s_Network_edges : Stmt := inClass (topS 15) 2
abbrev N_Network_edges : List Str := ["self"]
theorem sc_Network_edges : FnScope ["self"] ["self"] (defScope s_Network_edges) := ⟨rfl, rfl, rfl, by decide +kernel, rfl, by decide +kernel, by decide +kernel⟩
abbrev s_Network_around : Stmt := inClass (topS 15) 3
abbrev N_Network_around : List Str := ["self", "vertex"]
theorem sc_Network_around : FnScope ["self", "vertex"] ["self", "vertex"] (defScope s_Network_around) := ⟨rfl, rfl, rfl, by decide +kernel, rfl, by decide +kernel, by decide +kernel⟩
abbrev s_Network_leaving : Stmt := inClass (topS 15) 4
abbrev N_Network_leaving : List Str := ["self", "vertex"]
theorem sc_Network_leaving : FnScope ["self", "vertex"] ["self", "vertex"] (defScope s_Network_leaving) := ⟨rfl, rfl, rfl, by decide +kernel, rfl, by decide +kernel, by decide +kernel⟩
abbrev s_Network_entering : Stmt := inClass (topS 15) 5
abbrev N_Network_entering : List Str := ["self", "vertex"]
theorem sc_Network_entering : FnScope ["self", "vertex"] ["self", "vertex"] (defScope s_Network_entering) := ⟨rfl, rfl, rfl, by decide +kernel, rfl, by decide +kernel, by decide +kernel⟩
abbrev s_Network_other_end : Stmt := inClass (topS 15) 6
abbrev N_Network_other_end : List Str := ["self", "number", "vertex"]
theorem sc_Network_other_end : FnScope ["self", "number", "vertex"] ["self", "number", "vertex"] (defScope s_Network_other_end) := ⟨rfl, rfl, rfl, by decide +kernel, rfl, by decide +kernel, by decide +kernel⟩
abbrev s_Network_with_price : Stmt := inClass (topS 15) 7
abbrev N_Network_with_price : List Str := ["self", "number", "price"]
theorem sc_Network_with_price : FnScope ["self", "number", "price"] ["self", "number", "price"] (defScope s_Network_with_price) := ⟨rfl, rfl, rfl, by decide +kernel, rfl, by decide +kernel, by decide +kernel⟩
abbrev s_write_network : Stmt := topS 18
abbrev N_write_network : List Str := ["network", "lines", "u", "v", "price"]
theorem sc_write_network : FnScope ["network", "lines", "u", "v", "price"] ["network"] (defScope s_write_network) := ⟨rfl, rfl, rfl, by decide +kernel, rfl, by decide +kernel, by decide +kernel⟩
abbrev s_is_number : Stmt := topS 19
abbrev N_is_number : List Str := ["word"]
theorem sc_is_number : FnScope ["word"] ["word"] (defScope s_is_number) := ⟨rfl, rfl, rfl, by decide +kernel, rfl, by decide +kernel, by decide +kernel⟩
abbrev s_read_line : Stmt := topS 20
abbrev N_read_line : List Str := ["line", "at", "word", "many", "words", "digits"]
theorem sc_read_line : FnScope ["line", "at", "word", "many", "words", "digits"] ["line", "at", "word", "many"] (defScope s_read_line) := ⟨rfl, rfl, rfl, by decide +kernel, rfl, by decide +kernel, by decide +kernel⟩
abbrev s_read_edge : Stmt := topS 21
abbrev N_read_edge : List Str := ["line", "at", "size", "u", "v", "price"]
theorem sc_read_edge : FnScope ["line", "at", "size", "u", "v", "price"] ["line", "at", "size"] (defScope s_read_edge) := ⟨rfl, rfl, rfl, by decide +kernel, rfl, by decide +kernel, by decide +kernel⟩
abbrev s_read_network : Stmt := topS 22
abbrev N_read_network : List Str := ["text", "lines", "rest", "size", "edges", "at", "line"]
theorem sc_read_network : FnScope ["text", "lines", "rest", "size", "edges", "at", "line"] ["text"] (defScope s_read_network) := ⟨rfl, rfl, rfl, by decide +kernel, rfl, by decide +kernel, by decide +kernel⟩
abbrev s_law_draws : Stmt := topS 24
abbrev N_law_draws : List Str := ["script", "draws", "k", "rest", "turn", "mixed"]
theorem sc_law_draws : FnScope ["script", "draws", "k", "rest", "turn", "mixed"] ["script"] (defScope s_law_draws) := ⟨rfl, rfl, rfl, by decide +kernel, rfl, by decide +kernel, by decide +kernel⟩
abbrev s_law_mix : Stmt := topS 25
abbrev N_law_mix : List Str := ["draws", "k", "many", "value"]
theorem sc_law_mix : FnScope ["draws", "k", "many", "value"] ["draws", "k", "many"] (defScope s_law_mix) := ⟨rfl, rfl, rfl, by decide +kernel, rfl, by decide +kernel, by decide +kernel⟩
abbrev s_law_network : Stmt := topS 26
abbrev N_law_network : List Str := ["draws", "k", "sizes", "many", "top", "size", "edges", "j", "u", "v"]
theorem sc_law_network : FnScope ["draws", "k", "sizes", "many", "top", "size", "edges", "j", "u", "v"] ["draws", "k", "sizes", "many", "top"] (defScope s_law_network) := ⟨rfl, rfl, rfl, by decide +kernel, rfl, by decide +kernel, by decide +kernel⟩
abbrev s_law_text : Stmt := topS 27
abbrev N_law_text : List Str := ["size", "edges", "text", "u", "v", "price"]
theorem sc_law_text : FnScope ["size", "edges", "text", "u", "v", "price"] ["size", "edges"] (defScope s_law_text) := ⟨rfl, rfl, rfl, by decide +kernel, rfl, by decide +kernel, by decide +kernel⟩
abbrev s_law_number : Stmt := topS 28
abbrev N_law_number : List Str := ["word", "digits", "sign"]
theorem sc_law_number : FnScope ["word", "digits", "sign"] ["word"] (defScope s_law_number) := ⟨rfl, rfl, rfl, by decide +kernel, rfl, by decide +kernel, by decide +kernel⟩
abbrev s_law_row : Stmt := topS 29
abbrev N_law_row : List Str := ["line", "head", "many", "words", "numbers", "word"]
theorem sc_law_row : FnScope ["line", "head", "many", "words", "numbers", "word"] ["line", "head", "many"] (defScope s_law_row) := ⟨rfl, rfl, rfl, by decide +kernel, rfl, by decide +kernel, by decide +kernel⟩
abbrev s_law_read : Stmt := topS 30
abbrev N_law_read : List Str := ["text", "lines", "last", "size", "edges", "at", "row"]
theorem sc_law_read : FnScope ["text", "lines", "last", "size", "edges", "at", "row"] ["text"] (defScope s_law_read) := ⟨rfl, rfl, rfl, by decide +kernel, rfl, by decide +kernel, by decide +kernel⟩
abbrev s_law_told : Stmt := topS 31
abbrev N_law_told : List Str := ["text", "network", "error", "kinds"]
theorem sc_law_told : FnScope ["text", "network", "error", "kinds"] ["text"] (defScope s_law_told) := ⟨rfl, rfl, rfl, by decide +kernel, rfl, by decide +kernel, by decide +kernel⟩
abbrev s_law_changed : Stmt := topS 32
abbrev N_law_changed : List Str := ["draws", "k", "text", "way", "at", "sign", "lines", "words", "place", "other", "rows", "number"]
theorem sc_law_changed : FnScope ["draws", "k", "text", "way", "at", "sign", "lines", "words", "place", "other", "rows", "number"] ["draws", "k", "text"] (defScope s_law_changed) := ⟨rfl, rfl, rfl, by decide +kernel, rfl, by decide +kernel, by decide +kernel⟩
abbrev s_law : Stmt := topS 33
abbrev N_law : List Str := ["script", "draws", "size", "edges", "network", "text", "texts", "turn", "base", "many", "one", "told"]
theorem sc_law : FnScope ["script", "draws", "size", "edges", "network", "text", "texts", "turn", "base", "many", "one", "told"] ["script"] (defScope s_law) := ⟨rfl, rfl, rfl, by decide +kernel, rfl, by decide +kernel, by decide +kernel⟩
/-- what the top says -/
structure Tx (K : PySem.W.Frag) (mg : Str → Option Value) where
  f_wall : Addr
  fd_wall : FuncData
  F_wall : Fun K "_wall" "_wall" s_wall f_wall fd_wall
  b_wall : Binds K fd_wall ["k"] []
  g_wall : mg "_wall" = some (.ref f_wall)
  f_WebError___init__ : Addr
  fd_WebError___init__ : FuncData
  F_WebError___init__ : Fun K "__init__" "WebError.__init__" s_WebError___init__ f_WebError___init__ fd_WebError___init__
  b_WebError___init__ : Binds K fd_WebError___init__ ["self", "at"] []
  f_is_size : Addr
  fd_is_size : FuncData
  F_is_size : Fun K "is_size" "is_size" s_is_size f_is_size fd_is_size
  b_is_size : Binds K fd_is_size ["size"] []
  g_is_size : mg "is_size" = some (.ref f_is_size)
  f_is_price : Addr
  fd_is_price : FuncData
  F_is_price : Fun K "is_price" "is_price" s_is_price f_is_price fd_is_price
  b_is_price : Binds K fd_is_price ["price"] []
  g_is_price : mg "is_price" = some (.ref f_is_price)
  f_are_ends : Addr
  fd_are_ends : FuncData
  F_are_ends : Fun K "are_ends" "are_ends" s_are_ends f_are_ends fd_are_ends
  b_are_ends : Binds K fd_are_ends ["size", "u", "v"] []
  g_are_ends : mg "are_ends" = some (.ref f_are_ends)
  f_Network___init__ : Addr
  fd_Network___init__ : FuncData
  F_Network___init__ : Fun K "__init__" "Network.__init__" s_Network___init__ f_Network___init__ fd_Network___init__
  b_Network___init__ : Binds K fd_Network___init__ ["self", "size", "edges"] []
  f_Network_size : Addr
  fd_Network_size : FuncData
  F_Network_size : Fun K "size" "Network.size" s_Network_size f_Network_size fd_Network_size
  b_Network_size : Binds K fd_Network_size ["self"] []
  f_Network_edges : Addr
  fd_Network_edges : FuncData
  F_Network_edges : Fun K "edges" "Network.edges" s_Network_edges f_Network_edges fd_Network_edges
  b_Network_edges : Binds K fd_Network_edges ["self"] []
  f_Network_around : Addr
  fd_Network_around : FuncData
  F_Network_around : Fun K "around" "Network.around" s_Network_around f_Network_around fd_Network_around
  b_Network_around : Binds K fd_Network_around ["self", "vertex"] []
  f_Network_leaving : Addr
  fd_Network_leaving : FuncData
  F_Network_leaving : Fun K "leaving" "Network.leaving" s_Network_leaving f_Network_leaving fd_Network_leaving
  b_Network_leaving : Binds K fd_Network_leaving ["self", "vertex"] []
  f_Network_entering : Addr
  fd_Network_entering : FuncData
  F_Network_entering : Fun K "entering" "Network.entering" s_Network_entering f_Network_entering fd_Network_entering
  b_Network_entering : Binds K fd_Network_entering ["self", "vertex"] []
  f_Network_other_end : Addr
  fd_Network_other_end : FuncData
  F_Network_other_end : Fun K "other_end" "Network.other_end" s_Network_other_end f_Network_other_end fd_Network_other_end
  b_Network_other_end : Binds K fd_Network_other_end ["self", "number", "vertex"] []
  f_Network_with_price : Addr
  fd_Network_with_price : FuncData
  F_Network_with_price : Fun K "with_price" "Network.with_price" s_Network_with_price f_Network_with_price fd_Network_with_price
  b_Network_with_price : Binds K fd_Network_with_price ["self", "number", "price"] []
  f_write_network : Addr
  fd_write_network : FuncData
  F_write_network : Fun K "write_network" "write_network" s_write_network f_write_network fd_write_network
  b_write_network : Binds K fd_write_network ["network"] []
  g_write_network : mg "write_network" = some (.ref f_write_network)
  f_is_number : Addr
  fd_is_number : FuncData
  F_is_number : Fun K "is_number" "is_number" s_is_number f_is_number fd_is_number
  b_is_number : Binds K fd_is_number ["word"] []
  g_is_number : mg "is_number" = some (.ref f_is_number)
  f_read_line : Addr
  fd_read_line : FuncData
  F_read_line : Fun K "read_line" "read_line" s_read_line f_read_line fd_read_line
  b_read_line : Binds K fd_read_line ["line", "at", "word", "many"] []
  g_read_line : mg "read_line" = some (.ref f_read_line)
  f_read_edge : Addr
  fd_read_edge : FuncData
  F_read_edge : Fun K "read_edge" "read_edge" s_read_edge f_read_edge fd_read_edge
  b_read_edge : Binds K fd_read_edge ["line", "at", "size"] []
  g_read_edge : mg "read_edge" = some (.ref f_read_edge)
  f_read_network : Addr
  fd_read_network : FuncData
  F_read_network : Fun K "read_network" "read_network" s_read_network f_read_network fd_read_network
  b_read_network : Binds K fd_read_network ["text"] []
  g_read_network : mg "read_network" = some (.ref f_read_network)
  f_law_draws : Addr
  fd_law_draws : FuncData
  F_law_draws : Fun K "_law_draws" "_law_draws" s_law_draws f_law_draws fd_law_draws
  b_law_draws : Binds K fd_law_draws ["script"] []
  g_law_draws : mg "_law_draws" = some (.ref f_law_draws)
  f_law_mix : Addr
  fd_law_mix : FuncData
  F_law_mix : Fun K "_law_mix" "_law_mix" s_law_mix f_law_mix fd_law_mix
  b_law_mix : Binds K fd_law_mix ["draws", "k", "many"] []
  g_law_mix : mg "_law_mix" = some (.ref f_law_mix)
  f_law_network : Addr
  fd_law_network : FuncData
  F_law_network : Fun K "_law_network" "_law_network" s_law_network f_law_network fd_law_network
  b_law_network : Binds K fd_law_network ["draws", "k", "sizes", "many", "top"] []
  g_law_network : mg "_law_network" = some (.ref f_law_network)
  f_law_text : Addr
  fd_law_text : FuncData
  F_law_text : Fun K "_law_text" "_law_text" s_law_text f_law_text fd_law_text
  b_law_text : Binds K fd_law_text ["size", "edges"] []
  g_law_text : mg "_law_text" = some (.ref f_law_text)
  f_law_number : Addr
  fd_law_number : FuncData
  F_law_number : Fun K "_law_number" "_law_number" s_law_number f_law_number fd_law_number
  b_law_number : Binds K fd_law_number ["word"] []
  g_law_number : mg "_law_number" = some (.ref f_law_number)
  f_law_row : Addr
  fd_law_row : FuncData
  F_law_row : Fun K "_law_row" "_law_row" s_law_row f_law_row fd_law_row
  b_law_row : Binds K fd_law_row ["line", "head", "many"] []
  g_law_row : mg "_law_row" = some (.ref f_law_row)
  f_law_read : Addr
  fd_law_read : FuncData
  F_law_read : Fun K "_law_read" "_law_read" s_law_read f_law_read fd_law_read
  b_law_read : Binds K fd_law_read ["text"] []
  g_law_read : mg "_law_read" = some (.ref f_law_read)
  f_law_told : Addr
  fd_law_told : FuncData
  F_law_told : Fun K "_law_told" "_law_told" s_law_told f_law_told fd_law_told
  b_law_told : Binds K fd_law_told ["text"] []
  g_law_told : mg "_law_told" = some (.ref f_law_told)
  f_law_changed : Addr
  fd_law_changed : FuncData
  F_law_changed : Fun K "_law_changed" "_law_changed" s_law_changed f_law_changed fd_law_changed
  b_law_changed : Binds K fd_law_changed ["draws", "k", "text"] []
  g_law_changed : mg "_law_changed" = some (.ref f_law_changed)
  f_law : Addr
  fd_law : FuncData
  F_law : Fun K "law" "law" s_law f_law fd_law
  b_law : Binds K fd_law ["script"] []
  g_law : mg "law" = some (.ref f_law)
  c_Network : Addr
  g_Network : mg "Network" = some (.ref c_Network)
  cl_Network : Cls K c_Network
  mk_Network : Mk K c_Network f_Network___init__
  m_Network_size : Meth K c_Network "size" f_Network_size
  m_Network_edges : Meth K c_Network "edges" f_Network_edges
  m_Network_around : Meth K c_Network "around" f_Network_around
  m_Network_leaving : Meth K c_Network "leaving" f_Network_leaving
  m_Network_entering : Meth K c_Network "entering" f_Network_entering
  m_Network_other_end : Meth K c_Network "other_end" f_Network_other_end
  m_Network_with_price : Meth K c_Network "with_price" f_Network_with_price
  na_Network__size : NoAttr K c_Network "_size"
  na_Network__edges : NoAttr K c_Network "_edges"
  c_WebError : Addr
  x_WebError : OexC K c_WebError ∧ PySem.W.findIn K (.ref c_WebError) "at" = some none ∧ PySem.W.findIn K (.ref c_WebError) "__init__" = some (some (.ref f_WebError___init__)) ∧ PySem.W.typeIn K (.ref f_WebError___init__) = some (.type "function") ∧ mg "WebError" = some (.ref c_WebError)
  e_WebError : ExcC K c_WebError
  ef_WebError : XfC K c_WebError
  c_OutOfRange : Addr
  x_OutOfRange : OexC K c_OutOfRange ∧ PySem.W.findIn K (.ref c_OutOfRange) "at" = some none ∧ PySem.W.findIn K (.ref c_OutOfRange) "__init__" = some (some (.ref f_WebError___init__)) ∧ PySem.W.typeIn K (.ref f_WebError___init__) = some (.type "function") ∧ mg "OutOfRange" = some (.ref c_OutOfRange)
  e_OutOfRange : ExcC K c_OutOfRange
  ef_OutOfRange : XfC K c_OutOfRange
  c_BadLine : Addr
  x_BadLine : OexC K c_BadLine ∧ PySem.W.findIn K (.ref c_BadLine) "at" = some none ∧ PySem.W.findIn K (.ref c_BadLine) "__init__" = some (some (.ref f_WebError___init__)) ∧ PySem.W.typeIn K (.ref f_WebError___init__) = some (.type "function") ∧ mg "BadLine" = some (.ref c_BadLine)
  e_BadLine : ExcC K c_BadLine
  ef_BadLine : XfC K c_BadLine
  c_BadVertex : Addr
  x_BadVertex : OexC K c_BadVertex ∧ PySem.W.findIn K (.ref c_BadVertex) "at" = some none ∧ PySem.W.findIn K (.ref c_BadVertex) "__init__" = some (some (.ref f_WebError___init__)) ∧ PySem.W.typeIn K (.ref f_WebError___init__) = some (.type "function") ∧ mg "BadVertex" = some (.ref c_BadVertex)
  e_BadVertex : ExcC K c_BadVertex
  ef_BadVertex : XfC K c_BadVertex
  c_BadPrice : Addr
  x_BadPrice : OexC K c_BadPrice ∧ PySem.W.findIn K (.ref c_BadPrice) "at" = some none ∧ PySem.W.findIn K (.ref c_BadPrice) "__init__" = some (some (.ref f_WebError___init__)) ∧ PySem.W.typeIn K (.ref f_WebError___init__) = some (.type "function") ∧ mg "BadPrice" = some (.ref c_BadPrice)
  e_BadPrice : ExcC K c_BadPrice
  ef_BadPrice : XfC K c_BadPrice
  c_TooMany : Addr
  x_TooMany : OexC K c_TooMany ∧ PySem.W.findIn K (.ref c_TooMany) "at" = some none ∧ PySem.W.findIn K (.ref c_TooMany) "__init__" = some (some (.ref f_WebError___init__)) ∧ PySem.W.typeIn K (.ref f_WebError___init__) = some (.type "function") ∧ mg "TooMany" = some (.ref c_TooMany)
  e_TooMany : ExcC K c_TooMany
  ef_TooMany : XfC K c_TooMany
  em_OutOfRange : PySem.W.exmOne K (.ref c_OutOfRange) (.ref c_WebError) = some true
  is_OutOfRange_OutOfRange : PySem.W.kitOne K (.ref c_OutOfRange) (.ref c_OutOfRange) = some true
  is_OutOfRange_BadLine : PySem.W.kitOne K (.ref c_OutOfRange) (.ref c_BadLine) = some false
  is_OutOfRange_BadVertex : PySem.W.kitOne K (.ref c_OutOfRange) (.ref c_BadVertex) = some false
  is_OutOfRange_BadPrice : PySem.W.kitOne K (.ref c_OutOfRange) (.ref c_BadPrice) = some false
  is_OutOfRange_TooMany : PySem.W.kitOne K (.ref c_OutOfRange) (.ref c_TooMany) = some false
  em_BadLine : PySem.W.exmOne K (.ref c_BadLine) (.ref c_WebError) = some true
  is_BadLine_OutOfRange : PySem.W.kitOne K (.ref c_BadLine) (.ref c_OutOfRange) = some false
  is_BadLine_BadLine : PySem.W.kitOne K (.ref c_BadLine) (.ref c_BadLine) = some true
  is_BadLine_BadVertex : PySem.W.kitOne K (.ref c_BadLine) (.ref c_BadVertex) = some false
  is_BadLine_BadPrice : PySem.W.kitOne K (.ref c_BadLine) (.ref c_BadPrice) = some false
  is_BadLine_TooMany : PySem.W.kitOne K (.ref c_BadLine) (.ref c_TooMany) = some false
  em_BadVertex : PySem.W.exmOne K (.ref c_BadVertex) (.ref c_WebError) = some true
  is_BadVertex_OutOfRange : PySem.W.kitOne K (.ref c_BadVertex) (.ref c_OutOfRange) = some false
  is_BadVertex_BadLine : PySem.W.kitOne K (.ref c_BadVertex) (.ref c_BadLine) = some false
  is_BadVertex_BadVertex : PySem.W.kitOne K (.ref c_BadVertex) (.ref c_BadVertex) = some true
  is_BadVertex_BadPrice : PySem.W.kitOne K (.ref c_BadVertex) (.ref c_BadPrice) = some false
  is_BadVertex_TooMany : PySem.W.kitOne K (.ref c_BadVertex) (.ref c_TooMany) = some false
  em_BadPrice : PySem.W.exmOne K (.ref c_BadPrice) (.ref c_WebError) = some true
  is_BadPrice_OutOfRange : PySem.W.kitOne K (.ref c_BadPrice) (.ref c_OutOfRange) = some false
  is_BadPrice_BadLine : PySem.W.kitOne K (.ref c_BadPrice) (.ref c_BadLine) = some false
  is_BadPrice_BadVertex : PySem.W.kitOne K (.ref c_BadPrice) (.ref c_BadVertex) = some false
  is_BadPrice_BadPrice : PySem.W.kitOne K (.ref c_BadPrice) (.ref c_BadPrice) = some true
  is_BadPrice_TooMany : PySem.W.kitOne K (.ref c_BadPrice) (.ref c_TooMany) = some false
  em_TooMany : PySem.W.exmOne K (.ref c_TooMany) (.ref c_WebError) = some true
  is_TooMany_OutOfRange : PySem.W.kitOne K (.ref c_TooMany) (.ref c_OutOfRange) = some false
  is_TooMany_BadLine : PySem.W.kitOne K (.ref c_TooMany) (.ref c_BadLine) = some false
  is_TooMany_BadVertex : PySem.W.kitOne K (.ref c_TooMany) (.ref c_BadVertex) = some false
  is_TooMany_BadPrice : PySem.W.kitOne K (.ref c_TooMany) (.ref c_BadPrice) = some false
  is_TooMany_TooMany : PySem.W.kitOne K (.ref c_TooMany) (.ref c_TooMany) = some true
  z_len : mg "len" = none
  z_range : mg "range" = none
  z_min : mg "min" = none
  z_abs : mg "abs" = none
  z_int : mg "int" = none
  z_list : mg "list" = none
  z_enumerate : mg "enumerate" = none
  z_isinstance : mg "isinstance" = none
  z_str : mg "str" = none
  z_tuple : mg "tuple" = none
  z_ValueError : mg "ValueError" = none
  t_MOST_VERTICES : Tok
  k_MOST_VERTICES : mg "MOST_VERTICES" = some (.int 40 t_MOST_VERTICES)
  t_MOST_EDGES : Tok
  k_MOST_EDGES : mg "MOST_EDGES" = some (.int 200 t_MOST_EDGES)
  t_MOST_PRICE : Tok
  k_MOST_PRICE : mg "MOST_PRICE" = some (.int 1048576 t_MOST_PRICE)
  t_MOST_DIGITS : Tok
  k_MOST_DIGITS : mg "MOST_DIGITS" = some (.int 7 t_MOST_DIGITS)

def eE (e : E3) : PyData := .tuple [.int e.1, .int e.2.1, .int e.2.2]
def eI (xs : List Int) : PyData := .list (xs.map .int)
def eEs (es : List E3) : PyData := .list (es.map eE)
/-- a number drawn -/
def mixV (ds : List Int) (k : Int) : Int := if 0 < (ds.length : Int) then ds.getD (k % ds.length).toNat 0 else 0
def mix (ds : List Int) (k many : Int) : Int := if k < ds.length then mixV ds k % many else ((mixV ds k * 7919 + k * 104729) / 3) % many
theorem mix_bd {ds : List Int} {k many : Int} (h : 0 < many) : 0 ≤ mix ds k many ∧ mix ds k many < many := by
  unfold mix
  split
  · exact ⟨Int.emod_nonneg _ (by omega), Int.emod_lt_of_pos _ h⟩
  · exact ⟨Int.emod_nonneg _ (by omega), Int.emod_lt_of_pos _ h⟩
theorem atI_map {α : Type} {en : α → PyData} {xs : List α} {i : Int} {x : α} (h0 : 0 ≤ i) (h : xs[i.toNat]? = some x) : atI (xs.map en) i = some (en x) := by
  obtain ⟨hl, rfl⟩ := List.getElem?_eq_some_iff.mp h
  unfold atI ixN
  rw [if_pos h0, if_pos (by rw [List.length_map]; omega)]
  show (xs.map en)[i.toNat]? = _
  rw [List.getElem?_map, h]
  rfl
theorem atI_ints {ds : List Int} {i : Int} (h0 : 0 ≤ i) (h1 : i < ds.length) : atI (ds.map PyData.int) i = some (.int (ds.getD i.toNat 0)) := by
  refine atI_map h0 ?_
  rw [List.getD_eq_getElem?_getD, List.getElem?_eq_getElem (by omega)]
  rfl
/-! what is good -/
inductive EK where
  | oor | bv | bp | tm | bl
def isVert (n v : Int) : Bool := decide (0 ≤ v) && decide (v < n)
def badEdge (n : Int) (e : E3) : Option EK := if isEnds n e.1 e.2.1 = true then (if isPrice e.2.2 = true then none else some .bp) else some .bv
def firstBad (n : Int) : List (E3 × Nat) → Option (EK × Int)
  | [] => none
  | p :: r => match badEdge n p.1 with
    | some k => some (k, (p.2 : Int))
    | none => firstBad n r
def netErr (n : Int) (es : List E3) : Option (EK × Int) := if isSize n = true then (if 200 < (es.length : Int) then some (.tm, (es.length : Int)) else firstBad n es.zipIdx) else some (.oor, n)
def netF (n : Int) (es : List E3) : List (Str × Rp) := [("_size", dI n), ("_edges", dat (eEs es))]
def Good (n : Int) (es : List E3) : Prop := netErr n es = none

theorem badEdge_cases (n : Int) (e : E3) : (isEnds n e.1 e.2.1 = false ∧ badEdge n e = some .bv) ∨ (isEnds n e.1 e.2.1 = true ∧ isPrice e.2.2 = false ∧ badEdge n e = some .bp) ∨ (isEnds n e.1 e.2.1 = true ∧ isPrice e.2.2 = true ∧ badEdge n e = none) := by
  unfold badEdge
  cases isEnds n e.1 e.2.1 <;> cases isPrice e.2.2 <;> simp

def Tx.cls {K : PySem.W.Frag} {mg : Str → Option Value} (T : Tx K mg) : EK → Addr
  | .oor => T.c_OutOfRange
  | .bv => T.c_BadVertex
  | .bp => T.c_BadPrice
  | .tm => T.c_TooMany
  | .bl => T.c_BadLine
def netR {K : PySem.W.Frag} {mg : Str → Option Value} (T : Tx K mg) (n : Int) (es : List E3) : Rp := insR T.c_Network (netF n es)

/-! ### what is drawn -/
def dig (s : Int × List Int) : Int × List Int := if 0 < s.1 then (s.1 / 65536, s.2 ++ [s.1 % 65536]) else s
def absI (n : Int) : Int := if n < 0 then -n else n
def mixA (r : Int) (k : Int) : Int := ((r * 48271 + (k + 1) * 69621) % 2147483647 * 16807 + 11 * k + 5) % 2147483629
def drawOne (xs : List Int) (ds : List Int) (k : Nat) : List Int := if (10 : Int) ^ 18 ≤ absI (xs.getD k 0) then ((List.range 60).foldl (fun s _ => dig s) (absI (xs.getD k 0), ds)).2 else (ds ++ [mixA (absI (xs.getD k 0)) k % 65536]) ++ [mixA (absI (xs.getD k 0)) k / 65536 % 32768]
def drawsL (xs : List Int) : List Int := (List.range (min 63 xs.length)).foldl (drawOne xs) []
theorem digs_len (ks : List Nat) : ∀ s : Int × List Int, (ks.foldl (fun s _ => dig s) s).2.length ≤ s.2.length + ks.length := by
  induction ks with
  | nil => intro s; exact Nat.le_refl _
  | cons k ks ih =>
    intro s
    refine Nat.le_trans (ih _) ?_
    have : (dig s).2.length ≤ s.2.length + 1 := by
      unfold dig
      split
      · simp
      · omega
    rw [List.length_cons]
    show (dig s).2.length + ks.length ≤ _
    omega
theorem drawOne_len (xs ds : List Int) (k : Nat) : (drawOne xs ds k).length ≤ ds.length + 60 := by
  unfold drawOne
  split
  · refine Nat.le_trans (digs_len _ _) ?_
    simp
  · simp
theorem draws_len (xs : List Int) (ks : List Nat) : ∀ ds : List Int, (ks.foldl (drawOne xs) ds).length ≤ ds.length + 60 * ks.length := by
  induction ks with
  | nil => intro ds; simp
  | cons k ks ih =>
    intro ds
    refine Nat.le_trans (ih _) ?_
    have := drawOne_len xs ds k
    rw [List.length_cons]
    omega
def edgeN (ds : List Int) (k size top : Int) (j : Nat) : E3 := (mix ds (k + 3 + 3 * j) size, (mix ds (k + 3 + 3 * j) size + 1 + mix ds (k + 4 + 3 * j) (size - 1)) % size, mix ds (k + 5 + 3 * j) top)
def sizeN (ds : List Int) (k sizes : Int) : Int := 1 + mix ds k sizes
def edgesN (ds : List Int) (k size many top : Int) : List E3 := if 1 < size then (List.range (mix ds (k + 1) (many + 1)).toNat).map (edgeN ds k size top) else []
/-! ### which networks are good -/
theorem firstBad_none {n : Int} : ∀ {ps : List (E3 × Nat)}, (∀ p ∈ ps, isEnds n p.1.1 p.1.2.1 = true ∧ isPrice p.1.2.2 = true) → firstBad n ps = none
  | [], _ => rfl
  | p :: r, h => by
    have hb : badEdge n p.1 = none := by
      unfold badEdge
      rw [if_pos (h p (List.mem_cons_self ..)).1, if_pos (h p (List.mem_cons_self ..)).2]
    have e1 : firstBad n (p :: r) = firstBad n r := by conv => lhs; unfold firstBad; simp only [hb]
    rw [e1]
    exact firstBad_none fun q hq => h q (List.mem_cons_of_mem _ hq)
theorem firstBad_of_none {n : Int} : ∀ {ps : List (E3 × Nat)}, firstBad n ps = none → ∀ p ∈ ps, isEnds n p.1.1 p.1.2.1 = true ∧ isPrice p.1.2.2 = true
  | [], _, _, h => nomatch h
  | p :: r, h, q, hq => by
    rcases badEdge_cases n p.1 with ⟨h1, h2⟩ | ⟨h1, h2, h3⟩ | ⟨h1, h2, h3⟩
    · unfold firstBad at h; simp only [h2] at h; cases h
    · unfold firstBad at h; simp only [h3] at h; cases h
    · unfold firstBad at h; simp only [h3] at h
      rcases List.mem_cons.mp hq with rfl | hq
      · exact ⟨h1, h2⟩
      · exact firstBad_of_none h q hq
theorem mem_zip {es : List E3} {e : E3} (h : e ∈ es) : ∃ k, (e, k) ∈ es.zipIdx := by
  obtain ⟨i, hi, rfl⟩ := List.mem_iff_getElem.mp h
  exact ⟨i, List.mk_mem_zipIdx_iff_getElem?.mpr (List.getElem?_eq_getElem hi)⟩
structure Fine (n : Int) (es : List E3) : Prop where
  lo : 1 ≤ n
  hi : n ≤ 40
  len : es.length ≤ 200
  ends : ∀ e ∈ es, isEnds n e.1 e.2.1 = true
  price : ∀ e ∈ es, isPrice e.2.2 = true
theorem Fine.good {n : Int} {es : List E3} (h : Fine n es) : netErr n es = none := by
  unfold netErr
  rw [if_pos (show isSize n = true by unfold isSize; rw [decide_eq_true h.lo, decide_eq_true h.hi]; rfl), if_neg (by have := h.len; omega)]
  exact firstBad_none fun p hp => ⟨h.ends _ (List.fst_mem_of_mem_zipIdx hp), h.price _ (List.fst_mem_of_mem_zipIdx hp)⟩
theorem ends_of {n u v : Int} (h : isEnds n u v = true) : 0 ≤ u ∧ u < n ∧ 0 ≤ v ∧ v < n ∧ u ≠ v := by
  simpa [isEnds, and_assoc] using h
theorem ends_mk {n u v : Int} (h : 0 ≤ u ∧ u < n ∧ 0 ≤ v ∧ v < n ∧ u ≠ v) : isEnds n u v = true := by
  simpa [isEnds, and_assoc] using h
theorem fine_net {ds : List Int} {k sizes many top : Int} (h1 : 0 < sizes) (h2 : sizes ≤ 40) (h3 : 0 ≤ many) (h4 : many ≤ 200) (h5 : 0 < top) (h6 : top ≤ 1048577) : Fine (sizeN ds k sizes) (edgesN ds k (sizeN ds k sizes) many top) := by
  have m := mix_bd (ds := ds) (k := k) h1
  have m2 := mix_bd (ds := ds) (k := k + 1) (many := many + 1) (by omega)
  refine ⟨by unfold sizeN; omega, by unfold sizeN; omega, ?_, ?_, ?_⟩
  · unfold edgesN
    split
    · rw [List.length_map, List.length_range]; omega
    · exact Nat.zero_le _
  · intro e he
    unfold edgesN at he
    split at he
    · next hs =>
      obtain ⟨j, _, rfl⟩ := List.mem_map.mp he
      generalize sizeN ds k sizes = n at hs
      have a := mix_bd (ds := ds) (k := k + 3 + 3 * j) (many := n) (by omega)
      have b := mix_bd (ds := ds) (k := k + 4 + 3 * j) (many := n - 1) (by omega)
      refine ends_mk ⟨a.1, a.2, Int.emod_nonneg _ (by omega), Int.emod_lt_of_pos _ (by omega), ?_⟩
      show mix ds (k + 3 + 3 * j) n ≠ (mix ds (k + 3 + 3 * j) n + 1 + mix ds (k + 4 + 3 * j) (n - 1)) % n
      generalize mix ds (k + 3 + 3 * j) n = u at a
      generalize mix ds (k + 4 + 3 * j) (n - 1) = d at b
      by_cases hc : u + 1 + d < n
      · rw [Int.emod_eq_of_lt (by omega) hc]; omega
      · rw [show u + 1 + d = (u + 1 + d - n) + n by omega, Int.add_emod_right, Int.emod_eq_of_lt (by omega) (by omega)]; omega
    · cases he
  · intro e he
    unfold edgesN at he
    split at he
    · obtain ⟨j, _, rfl⟩ := List.mem_map.mp he
      have a := mix_bd (ds := ds) (k := k + 5 + 3 * j) (many := top) h5
      show isPrice (mix ds (k + 5 + 3 * j) top) = true
      unfold isPrice
      rw [decide_eq_true a.1, decide_eq_true (by omega)]; rfl
    · cases he
instance : DecidableEq EK := fun a b => by cases a <;> cases b <;> first | exact isTrue rfl | exact isFalse (fun h => by cases h)
section
variable {K : PySem.W.Frag} {mg : Str → Option Value} (T : Tx K mg)
def sp_WebError___init__ : Sp := spAt K
def sp_is_size (_ : Tx K mg) : Sp := SpA (α := Int) (fun _ => True) (fun x => [pu (dI x)]) (fun x => .ok (dB (isSize x)))
def sp_is_price (_ : Tx K mg) : Sp := SpA (α := Int) (fun _ => True) (fun x => [pu (dI x)]) (fun x => .ok (dB (isPrice x)))
def sp_are_ends (_ : Tx K mg) : Sp := SpA (α := Int × Int × Int) (fun _ => True) (fun x => [pu (dI x.1), pu (dI x.2.1), pu (dI x.2.2)]) (fun x => .ok (dB (isEnds x.1 x.2.1 x.2.2)))
def netI (x : Int × List E3) : IRes := match netErr x.1 x.2 with | some (k, a) => .err (T.cls k) a | none => .ok (netF x.1 x.2)
theorem netI_err {n : Int} {es : List E3} {k : EK} {a : Int} (h : netErr n es = some (k, a)) : netI T (n, es) = .err (T.cls k) a := by unfold netI; rw [h]
theorem netI_ok {n : Int} {es : List E3} (h : netErr n es = none) : netI T (n, es) = .ok (netF n es) := by unfold netI; rw [h]
def sp_Network___init__ : Sp := SpI (α := Int × List E3) T.c_Network (fun _ => True) (fun x => [pu (dI x.1), bL (x.2.map eE)]) (netI T)
def sp_Network_size : Sp := SpA (α := Int × List E3) (fun _ => True) (fun x => [pu (netR T x.1 x.2)]) (fun x => .ok (dI x.1))
def sp_Network_edges : Sp := SpA (α := Int × List E3) (fun _ => True) (fun x => [pu (netR T x.1 x.2)]) (fun x => .own (oL (x.2.map eE)))
def sp_law_mix (_ : Tx K mg) : Sp := SpA (α := List Int × Int × Int) (fun x => 0 < x.2.2) (fun x => [bL (x.1.map .int), pu (dI x.2.1), pu (dI x.2.2)]) (fun x => .ok (dI (mix x.1 x.2.1 x.2.2)))
def sp_law_draws (_ : Tx K mg) : Sp := SpA (α := List Int) (fun xs => xs.length ≤ 63) (fun xs => [pu (scR K xs)]) (fun xs => .own (oL ((drawsL xs).map .int)))
def sp_law_network (_ : Tx K mg) : Sp := SpA (α := List Int × Int × Int × Int × Int) (fun x => 0 < x.2.2.1 ∧ 0 ≤ x.2.2.2.1 ∧ x.2.2.2.1 ≤ 1000 ∧ 0 < x.2.2.2.2) (fun x => [bL (x.1.map .int), pu (dI x.2.1), pu (dI x.2.2.1), pu (dI x.2.2.2.1), pu (dI x.2.2.2.2)])
  (fun x => .own (oPair (sizeN x.1 x.2.1 x.2.2.1) ((edgesN x.1 x.2.1 (sizeN x.1 x.2.1 x.2.2.1) x.2.2.2.1 x.2.2.2.2).map eE)))
def kindT : RK → EK
  | .line => .bl
  | .vertex => .bv
  | .price => .bp
  | .many => .tm
def rowR (o : Option (List Int)) (at_ : Int) : Res := match o with | some ns => .own (oL (ns.map .int)) | none => .err T.c_BadLine at_
def edgeR (o : Sum RK E3) (at_ : Int) : Res := match o with | .inr e => .ok (dat (eE e)) | .inl k => .err (T.cls (kindT k)) at_
def readR (o : Sum (RK × Nat) (Int × List E3)) : Res := match o with | .inr x => .ok (netR T x.1 x.2) | .inl k => .err (T.cls (kindT k.1)) (k.2 : Int)
def sp_write_network : Sp := SpA (α := Int × List E3) (fun x => FineT x.1 x.2) (fun x => [pu (netR T x.1 x.2)]) (fun x => .ok (dat (.str (netS x.1 x.2))))
def sp_is_number (_ : Tx K mg) : Sp := SpA (α := Str) (fun w => w.length ≤ 1000000) (fun w => [pu (dat (.str w))]) (fun w => .ok (dB (numOk w)))
def sp_read_line : Sp := SpA (α := Str × Int × Str × Nat) (fun x => x.1.length ≤ 1000000 ∧ x.2.2.2 ≤ 100) (fun x => [pu (dat (.str x.1)), pu (dI x.2.1), pu (dat (.str x.2.2.1)), pu (dI x.2.2.2)]) (fun x => rowR T (rowOf x.2.2.1 x.2.2.2 x.1) x.2.1)
def sp_read_edge : Sp := SpA (α := Str × Int × Int) (fun x => x.1.length ≤ 1000000) (fun x => [pu (dat (.str x.1)), pu (dI x.2.1), pu (dI x.2.2)]) (fun x => edgeR T (edgeOf x.2.2 x.1) x.2.1)
def sp_read_network : Sp := SpA (α := Str) (fun t => t.length ≤ 1000000) (fun t => [pu (dat (.str t))]) (fun t => readR T (readT t))
def sp_law_text (_ : Tx K mg) : Sp := SpA (α := Int × List E3) (fun x => FineT x.1 x.2) (fun x => [pu (dI x.1), pu (dat (eEs x.2))]) (fun x => .ok (dat (.str (netS x.1 x.2))))
def spLaw (K : PySem.W.Frag) : Sp := SpA (α := List Int) (fun xs => xs.length ≤ 63) (fun xs => [pu (scR K xs)]) (fun _ => .ok (dB true))
abbrev sp_law (_ : Tx K mg) : Sp := spLaw K
end
section
variable {K : PySem.W.Frag} {mg : Str → Option Value} {T : Tx K mg} {W : WX} {E : XK} {ρ : List Sl} {te ta tb tc : TE} {n : Int} {es : List E3}
theorem c_is_size {n : Int} (h : Ev te ρ (pu (dI n))) : Ev (tCall (sp_is_size T) [] E (tCons te tNil)) ρ (pu (dB (isSize n))) := ev_call n (ea_cons h ea_nil) trivial rfl
theorem c_is_price {n : Int} (h : Ev te ρ (pu (dI n))) : Ev (tCall (sp_is_price T) [] E (tCons te tNil)) ρ (pu (dB (isPrice n))) := ev_call n (ea_cons h ea_nil) trivial rfl
theorem c_are_ends {n u v : Int} (h : Ev te ρ (pu (dI n))) (h1 : Ev ta ρ (pu (dI u))) (h2 : Ev tb ρ (pu (dI v))) : Ev (tCall (sp_are_ends T) [] E (tCons te (tCons ta (tCons tb tNil)))) ρ (pu (dB (isEnds n u v))) := ev_call (n, u, v) (ea_cons h (ea_cons h1 (ea_cons h2 ea_nil))) trivial rfl
theorem c_mix {ds : List Int} {k many : Int} (hm : 0 < many) (h : Ev te ρ (bL (ds.map .int))) (h1 : Ev ta ρ (pu (dI k))) (h2 : Ev tb ρ (pu (dI many))) : Ev (tCall (sp_law_mix T) [] E (tCons te (tCons ta (tCons tb tNil)))) ρ (pu (dI (mix ds k many))) := ev_call (ds, k, many) (ea_cons h (ea_cons h1 (ea_cons h2 ea_nil))) hm rfl
theorem fld_size {n : Int} {es : List E3} (T : Tx K mg) (h : Ev te ρ (pu (netR T n es))) : Ev (tFld K te "_size") ρ (pu (dI n)) := ev_fld h (by rfl) T.cl_Network T.na_Network__size
theorem fld_edges {n : Int} {es : List E3} (T : Tx K mg) (h : Ev te ρ (pu (netR T n es))) : Ev (tFld K te "_edges") ρ (pu (dat (eEs es))) := ev_fld h (by rfl) T.cl_Network T.na_Network__edges
theorem m_size (h : Ev te ρ (pu (netR T n es))) : Ev (tMeth T.c_Network "size" (sp_Network_size T) [] E te tNil) ρ (pu (dI n)) := ev_meth (B0 := fun (x : Int × List E3) => pu (netR T x.1 x.2)) (A := fun (x : Int × List E3) => []) (n, es) h (by rfl) ea_nil (fun _ _ _ q => q) trivial rfl
theorem m_edges (h : Ev te ρ (pu (netR T n es))) : EvN (tMeth T.c_Network "edges" (sp_Network_edges T) [] E te tNil) ρ (es.map eE) := en_meth (B0 := fun (x : Int × List E3) => pu (netR T x.1 x.2)) (A := fun (x : Int × List E3) => []) (n, es) h (by rfl) ea_nil (fun _ _ _ q => q) trivial rfl
theorem c_read_line {line wd : Str} {at_ : Int} {many : Nat} {ns : List Int} (hl : line.length ≤ 1000000) (hm : many ≤ 100) (hR : rowOf wd many line = some ns) (h : Ev te ρ (pu (dat (.str line)))) (h1 : Ev ta ρ (pu (dI at_))) (h2 : Ev tb ρ (pu (dat (.str wd)))) (h3 : Ev tc ρ (pu (dI many))) : EvN (tCall (sp_read_line T) [] E (tCons te (tCons ta (tCons tb (tCons tc tNil))))) ρ (ns.map .int) := en_call (line, at_, wd, many) (ea_cons h (ea_cons h1 (ea_cons h2 (ea_cons h3 ea_nil)))) ⟨hl, hm⟩ (by show rowR T (rowOf wd many line) at_ = _; rw [hR]; rfl)
theorem x_read_line {line wd : Str} {at_ : Int} {many : Nat} (hl : line.length ≤ 1000000) (hm : many ≤ 100) (hR : rowOf wd many line = none) (h : Ev te ρ (pu (dat (.str line)))) (h1 : Ev ta ρ (pu (dI at_))) (h2 : Ev tb ρ (pu (dat (.str wd)))) (h3 : Ev tc ρ (pu (dI many))) : EvX (WofE E) (tCall (sp_read_line T) [] E (tCons te (tCons ta (tCons tb (tCons tc tNil))))) ρ T.c_BadLine at_ := ex_call (line, at_, wd, many) (ea_cons h (ea_cons h1 (ea_cons h2 (ea_cons h3 ea_nil)))) ⟨hl, hm⟩ (by show rowR T (rowOf wd many line) at_ = _; rw [hR]; rfl)
theorem c_read_edge {line : Str} {at_ n : Int} {e : E3} (hl : line.length ≤ 1000000) (hR : edgeOf n line = .inr e) (h : Ev te ρ (pu (dat (.str line)))) (h1 : Ev ta ρ (pu (dI at_))) (h2 : Ev tb ρ (pu (dI n))) : Ev (tCall (sp_read_edge T) [] E (tCons te (tCons ta (tCons tb tNil)))) ρ (pu (dat (eE e))) := ev_call (line, at_, n) (ea_cons h (ea_cons h1 (ea_cons h2 ea_nil))) hl (by show edgeR T (edgeOf n line) at_ = _; rw [hR]; rfl)
theorem x_read_edge {line : Str} {at_ n : Int} {k : RK} (hl : line.length ≤ 1000000) (hR : edgeOf n line = .inl k) (h : Ev te ρ (pu (dat (.str line)))) (h1 : Ev ta ρ (pu (dI at_))) (h2 : Ev tb ρ (pu (dI n))) : EvX (WofE E) (tCall (sp_read_edge T) [] E (tCons te (tCons ta (tCons tb tNil)))) ρ (T.cls (kindT k)) at_ := ex_call (line, at_, n) (ea_cons h (ea_cons h1 (ea_cons h2 ea_nil))) hl (by show edgeR T (edgeOf n line) at_ = _; rw [hR]; rfl)
theorem c_is_number {w : Str} (hl : w.length ≤ 1000000) (h : Ev te ρ (pu (dat (.str w)))) : Ev (tCall (sp_is_number T) [] E (tCons te tNil)) ρ (pu (dB (numOk w))) := ev_call w (ea_cons h ea_nil) hl rfl
end
end Q

set_option Elab.async false
set_option linter.all false
set_option maxRecDepth 100000
set_option maxHeartbeats 4000000
namespace Q
open PySem PySem.Spec PyProof.Rows L2 Z QT TL

theorem tl_glu : ∀ (ys : List Str) (acc : Str), tl (gluS acc ys) = tl acc ++ (ys.map tl).flatten
  | [], acc => (List.append_nil _).symm
  | y :: ys, acc => by
    show tl (gluS (acc ++ y) ys) = _
    rw [tl_glu ys, tl_append, List.append_assoc]
    rfl
theorem small_log {n : Int} (h : n.natAbs < 2 ^ 64) : n.natAbs.log2 < 1920 := by
  by_cases z : n.natAbs = 0
  · rw [z]; decide
  · exact Nat.lt_trans ((Nat.log2_lt z).mpr h) (by decide)
def hS (n : Int) : Str := ⟨(headL n ++ [10]).toArray⟩
def eS (e : E3) : Str := ⟨(edgeL e ++ [10]).toArray⟩
theorem glu_head {n : Int} (h : 0 ≤ n) : gluS Str.empty [PySem.Str.ofString "network ", Str.ofString (toString n), PySem.Str.ofString "\n"] = hS n := by
  refine ext_tl ?_
  rw [tl_glu, str_nS n h]
  show ([] ++ (tl (PySem.Str.ofString "network ") ++ (numL n.toNat ++ (tl (PySem.Str.ofString "\n") ++ [])))) = headL n ++ [10]
  rw [show tl (PySem.Str.ofString "network ") = tl headW ++ [32] by decide, show tl (PySem.Str.ofString "\n") = [10] by decide]
  unfold headL
  simp
theorem glu_edge {e : E3} (h1 : 0 ≤ e.1) (h2 : 0 ≤ e.2.1) (h3 : 0 ≤ e.2.2) : gluS Str.empty [PySem.Str.ofString "edge ", Str.ofString (toString e.1), PySem.Str.ofString " ", Str.ofString (toString e.2.1), PySem.Str.ofString " ", Str.ofString (toString e.2.2), PySem.Str.ofString "\n"] = eS e := by
  refine ext_tl ?_
  rw [tl_glu, str_nS _ h1, str_nS _ h2, str_nS _ h3]
  show ([] ++ (tl (PySem.Str.ofString "edge ") ++ (numL e.1.toNat ++ (tl (PySem.Str.ofString " ") ++ (numL e.2.1.toNat ++ (tl (PySem.Str.ofString " ") ++ (numL e.2.2.toNat ++ (tl (PySem.Str.ofString "\n") ++ [])))))))) = edgeL e ++ [10]
  rw [show tl (PySem.Str.ofString "edge ") = tl edgeW ++ [32] by decide, show tl (PySem.Str.ofString "\n") = [10] by decide, show tl (PySem.Str.ofString " ") = [32] by decide]
  unfold edgeL
  simp
theorem joinL_nil : ∀ ls : List (List Nat), joinL [] ls = ls.flatten
  | [] => rfl
  | [l] => by simp [joinL]
  | l :: m :: r => by
    show l ++ ([] ++ joinL [] (m :: r)) = _
    rw [joinL_nil (m :: r)]
    rfl
theorem join_net (n : Int) (es : List E3) : Txt.join (PySem.Str.ofString "") (hS n :: es.map eS) = netS n es := by
  refine ext_tl ?_
  rw [join_eq, tl_join, show tl (PySem.Str.ofString "") = [] by decide, joinL_nil]
  show (_ :: (es.map eS).map tl).flatten = ((headL n :: es.map edgeL).map (· ++ [10])).flatten
  rw [List.map_map, List.map_cons, List.map_map]
  rfl
theorem numL_le {n : Int} (h : n < 10 ^ 7) (h0 : 0 ≤ n) : (numL n.toNat).length ≤ 7 := numL_len (by decide) (by omega)
theorem eS_len {e : E3} (h1 : 0 ≤ e.1 ∧ e.1 < 10 ^ 7) (h2 : 0 ≤ e.2.1 ∧ e.2.1 < 10 ^ 7) (h3 : 0 ≤ e.2.2 ∧ e.2.2 < 10 ^ 7) : (eS e).length ≤ 40 := by
  have a := numL_le h1.2 h1.1
  have b := numL_le h2.2 h2.1
  have c := numL_le h3.2 h3.1
  rw [len_tl]
  show (edgeL e ++ [10]).length ≤ 40
  unfold edgeL
  rw [show tl edgeW = [101, 100, 103, 101] by decide]
  simp only [List.length_append, List.length_cons, List.length_nil]
  omega
theorem hS_len {n : Int} (h : 0 ≤ n ∧ n < 10 ^ 7) : (hS n).length ≤ 40 := by
  have a := numL_le h.2 h.1
  rw [len_tl]
  show (headL n ++ [10]).length ≤ 40
  unfold headL
  rw [show tl headW = [110, 101, 116, 119, 111, 114, 107] by decide]
  simp only [List.length_append, List.length_cons, List.length_nil]
  omega
theorem sum_len {b : Nat} : ∀ {ys : List Str}, (∀ y ∈ ys, y.length ≤ b) → (ys.map (·.length)).sum ≤ ys.length * b
  | [], _ => Nat.zero_le _
  | y :: ys, h => by
    rw [List.map_cons, List.sum_cons, List.length_cons, Nat.succ_mul]
    have := h y (List.mem_cons_self ..)
    have := sum_len fun y hy => h y (List.mem_cons_of_mem _ hy)
    omega
theorem fine_bd {n : Int} {es : List E3} (F : FineT n es) : ∀ e ∈ es, (0 ≤ e.1 ∧ e.1 < 10 ^ 7) ∧ (0 ≤ e.2.1 ∧ e.2.1 < 10 ^ 7) ∧ (0 ≤ e.2.2 ∧ e.2.2 < 10 ^ 7) := fun e he => by
  have a := ends_lt (F.good e he).1
  have b := price_le (F.good e he).2
  have c := size_le F.size
  omega
theorem numOk_no {w : Str} (h : ¬ digits w = true) : numOk w = false := by
  unfold numOk
  rw [Bool.eq_false_iff.mpr h, Bool.false_and]
theorem one_ext {c d : Nat} : (⟨#[c]⟩ : Str) = ⟨#[d]⟩ ↔ c = d := ⟨fun h => by
  have := congrArg tl h
  exact (List.cons.inj (show [c] = [d] from this)).1, fun h => by rw [h]⟩
theorem numOk_is {w : Str} {c : Nat} {r : List Nat} (hd : digits w = true) (e : tl w = c :: r) : (decide (((w.length : Nat) : Int) ≤ 7) && (decide (w = PySem.Str.ofString "0") || !decide ((⟨#[c]⟩ : Str) = PySem.Str.ofString "0"))) = numOk w := by
  have z0 : (PySem.Str.ofString "0") = ⟨#[48]⟩ := ext_tl (by decide)
  unfold numOk
  rw [hd, Bool.true_and, z0, e]
  have e1 : decide (((w.length : Nat) : Int) ≤ 7) = decide (w.length ≤ 7) := by rw [Bool.eq_iff_iff]; simp; omega
  rw [e1]
  congr 1
  by_cases h : c = 48
  · subst h
    have e2 : decide (w = ⟨#[48]⟩) = decide (w.length = 1) := by
      rw [Bool.eq_iff_iff, decide_eq_true_eq, decide_eq_true_eq, len_tl, e]
      constructor
      · intro z
        rw [z] at e
        have : r = [] := (List.cons.inj (show [48] = 48 :: r from e)).2.symm
        rw [this]; rfl
      · intro z
        have : r = [] := by simpa using z
        rw [this] at e
        exact ext_tl e
    rw [e2, decide_eq_true (p := (⟨#[48]⟩ : Str) = ⟨#[48]⟩) rfl]
    simp
  · rw [decide_eq_false (p := (⟨#[c]⟩ : Str) = ⟨#[48]⟩) (fun z => h (one_ext.mp z)), decide_eq_true (p := (c :: r)[0]? ≠ some 48) (fun z => h (Option.some.inj z))]
    simp
theorem part_le (s : Nat) : ∀ {ls : List (List Nat)} {p : List Nat}, p ∈ ls → p.length ≤ (joinL [s] ls).length
  | [l], p, h => by rw [List.mem_singleton.mp h]; exact Nat.le_refl _
  | l :: m :: r, p, h => by
    show p.length ≤ (l ++ ([s] ++ joinL [s] (m :: r))).length
    rw [List.length_append, List.length_append]
    rcases List.mem_cons.mp h with rfl | h
    · omega
    · have := part_le s h
      omega
theorem word_le {line w : Str} {s : Nat} (hs : s < 256) (h : w ∈ Txt.split line (sepS s)) : w.length ≤ line.length := by
  rw [len_tl, len_tl, split_back line hs]
  exact part_le s (List.mem_map_of_mem h)
theorem sp_eq : (PySem.Str.ofString " ") = sepS 32 := ext_tl (by decide)
theorem nl_eq : (PySem.Str.ofString "\n") = sepS 10 := ext_tl (by decide)
theorem cut_tail {ds : List PyData} (h : 1 ≤ ds.length) : Z.cutD ds (some 1) none = ds.tail := by
  have e : HT.sIx ds.length 0 (some 1) = 1 := by
    show (if (1 : Int) < 0 then ((1 : Int) + (ds.length : Int)).toNat else min (1 : Int).toNat ds.length) = 1
    rw [if_neg (by decide), show (1 : Int).toNat = 1 from rfl, Nat.min_eq_left h]
  unfold Z.cutD
  rw [e]
  show (ds.drop 1).take (ds.length - 1) = _
  rw [List.take_of_length_le (by rw [List.length_drop]; omega), List.drop_one]
end Q

set_option Elab.async false
set_option linter.all false
set_option maxRecDepth 100000
set_option maxHeartbeats 4000000
namespace Q
open PySem PySem.Spec PyProof.Rows L2 Z QT TL

theorem kind_edge {n : Int} {l : Str} : (rowOf edgeW 3 l = none ∧ edgeOf n l = .inl .line) ∨ ∃ u v p, rowOf edgeW 3 l = some [u, v, p] ∧ edgeOf n l = if isEnds n u v = true then (if isPrice p = true then .inr (u, v, p) else .inl .price) else .inl .vertex := by
  cases hr : rowOf edgeW 3 l with
  | none =>
    left
    refine ⟨rfl, ?_⟩
    unfold edgeOf
    rw [hr]
  | some ns =>
    right
    obtain ⟨h1, _⟩ := row_back hr
    match ns, h1 with
    | [u, v, p], _ =>
      refine ⟨u, v, p, rfl, ?_⟩
      unfold edgeOf
      rw [hr]
theorem fine_of {n : Int} {es : List E3} (F : FineT n es) : Fine n es := ⟨(size_le F.size).1, (size_le F.size).2, F.len, fun e he => (F.good e he).1, fun e he => (F.good e he).2⟩
theorem readL_nil {ls : List Str} (h : ls.dropLast = []) : readL ls = .inl (.line, 0) := by unfold readL; rw [h]
theorem readL_none {ls : List Str} {l0 : Str} {r : List Str} (h : ls.dropLast = l0 :: r) (h2 : rowOf headW 1 l0 = none) : readL ls = .inl (.line, 0) := by unfold readL; rw [h]; simp only [h2]
theorem readL_size {ls : List Str} {l0 : Str} {r : List Str} {n : Int} (h : ls.dropLast = l0 :: r) (h2 : rowOf headW 1 l0 = some [n]) (h3 : ¬ isSize n = true) : readL ls = .inl (.vertex, 0) := by unfold readL; rw [h]; simp only [h2]; rw [if_neg h3]
theorem readL_es {ls : List Str} {l0 : Str} {r : List Str} {n : Int} (h : ls.dropLast = l0 :: r) (h2 : rowOf headW 1 l0 = some [n]) (h3 : isSize n = true) : readL ls = (match readEs n 1 r [] with
        | .inl e => .inl e
        | .inr es => if ls.getLast? = some Str.empty then .inr (n, es) else .inl (.line, (l0 :: r).length)) := by
  unfold readL
  rw [h]
  simp only [h2]
  rw [if_pos h3]
  all_goals (cases readEs n 1 r [] <;> rfl)
end Q

set_option Elab.async false
set_option linter.all false
set_option maxRecDepth 100000
set_option maxHeartbeats 4000000
namespace Q
open PySem PySem.Spec PyProof.Rows L2 Z QT TL

section
variable {K : PySem.W.Frag} {mg : Str → Option Value} (T : Tx K mg)
/-- one line of the loop -/
def lineF (ρe : List E3 → Str → Nat → List Sl) (m : Int) (es : List E3) (p : Str × Nat) : Sum (List E3) Out := if p.2 = 0 then .inl es else match edgeOf m p.1 with
  | .inl k => .inr (.xc (ρe es p.1 p.2) (T.cls (kindT k)) (p.2 : Int))
  | .inr e => if 200 ≤ es.length then .inr (.xc (ρe (es ++ [e]) p.1 p.2) T.c_TooMany (p.2 : Int)) else .inl (es ++ [e])
theorem lineF_run (ρe : List E3 → Str → Nat → List Sl) (m : Int) : ∀ (ls : List Str) (k : Nat) (es : List E3), 1 ≤ k → es.length ≤ 200 →
    (∃ es', readEs m k ls es = .inr es' ∧ runF (lineF T ρe m) es (ls.zipIdx k) = .inl es' ∧ es'.length ≤ 200) ∨ (∃ kd a ρ, readEs m k ls es = .inl (kd, a) ∧ runF (lineF T ρe m) es (ls.zipIdx k) = .inr (.xc ρ (T.cls (kindT kd)) (a : Int)))
  | [], k, es, _, hl => .inl ⟨es, rfl, rfl, hl⟩
  | l :: ls, k, es, hk, hl => by
    rw [List.zipIdx_cons]
    unfold runF readEs
    cases he : edgeOf m l with
    | inl kd =>
      refine .inr ⟨kd, k, ρe es l k, rfl, ?_⟩
      have : lineF T ρe m es (l, k) = .inr (.xc (ρe es l k) (T.cls (kindT kd)) (k : Int)) := by
        unfold lineF
        rw [if_neg (by show ¬ k = 0; omega)]
        simp only [he]
      rw [this]
    | inr e =>
      by_cases c : es.length = 200
      · refine .inr ⟨.many, k, ρe (es ++ [e]) l k, ?_, ?_⟩
        · simp only [if_pos c]
        · have : lineF T ρe m es (l, k) = .inr (.xc (ρe (es ++ [e]) l k) T.c_TooMany (k : Int)) := by
            unfold lineF
            rw [if_neg (by show ¬ k = 0; omega)]
            simp only [he]
            rw [if_pos (by omega)]
          rw [this]
          rfl
      · have : lineF T ρe m es (l, k) = .inl (es ++ [e]) := by
          unfold lineF
          rw [if_neg (by show ¬ k = 0; omega)]
          simp only [he]
          rw [if_neg (by omega)]
        rw [this]
        simp only [if_neg c]
        exact lineF_run ρe m ls (k + 1) (es ++ [e]) (by omega) (by rw [List.length_append]; show es.length + 1 ≤ 200; omega)
theorem lineF_len (ρe : List E3 → Str → Nat → List Sl) (m : Int) : ∀ (ps : List (Str × Nat)) {es s : List E3}, runF (lineF T ρe m) es ps = .inl s → es.length ≤ 200 → s.length ≤ 200
  | [], es, s, h, hl => by cases h; exact hl
  | p :: ps, es, s, h, hl => by
    unfold runF at h
    cases hf : lineF T ρe m es p with
    | inr o => rw [hf] at h; cases h
    | inl es' =>
      rw [hf] at h
      refine lineF_len ρe m ps h ?_
      unfold lineF at hf
      split at hf
      · cases hf; exact hl
      · split at hf
        · cases hf
        · split at hf
          · cases hf
          · cases hf
            rw [List.length_append]
            show es.length + 1 ≤ 200
            omega
theorem empty_eq : (PySem.Str.ofString "") = Str.empty := ext_tl (by decide)
end
end Q

set_option Elab.async false
set_option linter.all false
set_option maxRecDepth 100000
set_option maxHeartbeats 4000000
namespace Q
open PySem PySem.Spec PyProof.Rows L2 Z QT TL

theorem tl_net_snoc (n : Int) (es : List E3) (e : E3) : netL n (es ++ [e]) = netL n es ++ (edgeL e ++ [10]) := by
  unfold netL linesL
  simp
theorem len_ofL (l : List Nat) : (⟨l.toArray⟩ : Str).length = l.length := len_tl _
theorem netS_len {n : Int} {es : List E3} (F : FineT n es) : ∀ pre : List E3, (∀ e ∈ pre, e ∈ es) → (netS n pre).length ≤ 40 + 40 * pre.length := by
  have hbd := fine_bd F
  have hsz := size_le F.size
  have key : ∀ k : Nat, ∀ pre : List E3, pre.length = k → (∀ e ∈ pre, e ∈ es) → (netL n pre).length ≤ 40 + 40 * pre.length := by
    intro k
    induction k with
    | zero =>
      intro pre hk _
      have : pre = [] := List.length_eq_zero_iff.mp hk
      subst this
      have := hS_len (n := n) ⟨by omega, by omega⟩
      have e : (hS n).length = (headL n ++ [10]).length := len_ofL _
      show ((headL n ++ [10]) ++ []).length ≤ 40 + 40 * 0
      rw [List.append_nil, ← e]
      omega
    | succ k ih =>
      intro pre hk hm
      have hne : pre ≠ [] := fun z => by rw [z] at hk; cases hk
      have e := List.dropLast_concat_getLast hne
      rw [← e, tl_net_snoc, List.length_append]
      have i1 := ih pre.dropLast (by rw [List.length_dropLast]; omega) (fun e he => hm e (List.dropLast_subset _ he))
      have hb := hbd _ (hm _ (List.getLast_mem hne))
      have i2 := eS_len hb.1 hb.2.1 hb.2.2
      have e2 : (eS (pre.getLast hne)).length = (edgeL (pre.getLast hne) ++ [10]).length := len_ofL _
      rw [List.length_append (as := pre.dropLast)]
      show _ ≤ 40 + 40 * (pre.dropLast.length + 1)
      omega
  intro pre hm
  show (⟨(netL n pre).toArray⟩ : Str).length ≤ _
  rw [len_ofL]
  exact key _ pre rfl hm
theorem cat_edge {n : Int} {es : List E3} {e : E3} : netS n es ++ PySem.Str.ofString "edge " ++ nS e.1.toNat ++ PySem.Str.ofString " " ++ nS e.2.1.toNat ++ PySem.Str.ofString " " ++ nS e.2.2.toNat ++ PySem.Str.ofString "\n" = netS n (es ++ [e]) := by
  refine ext_tl ?_
  show _ = netL n (es ++ [e])
  rw [tl_net_snoc]
  simp only [tl_append]
  rw [show tl (PySem.Str.ofString "edge ") = tl edgeW ++ [32] by decide, show tl (PySem.Str.ofString "\n") = [10] by decide, show tl (PySem.Str.ofString " ") = [32] by decide]
  show netL n es ++ _ ++ numL _ ++ _ ++ numL _ ++ _ ++ numL _ ++ _ = _
  unfold edgeL
  simp
theorem cat_head {n : Int} : PySem.Str.ofString "network " ++ nS n.toNat ++ PySem.Str.ofString "\n" = netS n [] := by
  refine ext_tl ?_
  simp only [tl_append]
  rw [show tl (PySem.Str.ofString "network ") = tl headW ++ [32] by decide, show tl (PySem.Str.ofString "\n") = [10] by decide]
  show _ ++ numL _ ++ _ = (headL n ++ [10]) ++ []
  unfold headL
  simp
theorem nS_len {n : Int} (h : 0 ≤ n ∧ n < 10 ^ 7) : (nS n.toNat).length ≤ 7 := by
  have := numL_le h.2 h.1
  have e : (nS n.toNat).length = (numL n.toNat).length := len_tl _
  omega
end Q

set_option Elab.async false
set_option linter.all false
set_option maxRecDepth 100000
set_option maxHeartbeats 4000000
namespace Q
open PySem PySem.Spec PyProof.Rows L2 Z QT TL

def numO (w : Str) : Option Int := if numOk w = true then some (numV w) else none
def digS : Str := PySem.Str.ofString "0123456789"
theorem digS_in (c : Nat) : decide (c ∈ digS.cps.toList) = isD c := by
  have e : digS.cps.toList = [48, 49, 50, 51, 52, 53, 54, 55, 56, 57] := by decide
  rw [e]
  unfold isD
  rw [Bool.eq_iff_iff]
  simp only [decide_eq_true_eq, Bool.and_eq_true, List.mem_cons, List.not_mem_nil, or_false]
  omega
theorem filt_len {l : List Nat} : ((l.filter isD).length = l.length) ↔ l.all isD = true := by
  induction l with
  | nil => simp
  | cons c l ih =>
    rw [List.filter_cons, List.all_cons]
    cases h : isD c with
    | true =>
      rw [if_pos rfl, List.length_cons, List.length_cons, Bool.true_and, ← ih]
      omega
    | false =>
      rw [if_neg (by decide), List.length_cons]
      have := List.length_filter_le isD l
      constructor
      · intro z; omega
      · intro z; cases z
theorem numOk_law {w : Str} {c : Nat} (hc : tl w ≠ [] → (tl w)[0]? = some c) : (decide (((w.length : Nat) : Int) = 0) || ((!decide ((((((tl w).filter isD).map fun k => PyData.str ⟨#[k]⟩).length : Nat) : Int) = ((w.length : Nat) : Int))) || (decide ((7 : Int) < ((w.length : Nat) : Int)) || (decide ((1 : Int) < ((w.length : Nat) : Int)) && decide ((⟨#[c]⟩ : Str) = PySem.Str.ofString "0"))))) = !(numOk w) := by
  have z0 : (PySem.Str.ofString "0") = ⟨#[48]⟩ := ext_tl (by decide)
  have hlen := len_tl w
  rw [z0, List.length_map]
  unfold numOk digits
  have f1 : decide ((((tl w).filter isD).length : Int) = ((w.length : Nat) : Int)) = (tl w).all isD := by
    rw [Bool.eq_iff_iff, decide_eq_true_eq, ← filt_len, hlen]
    omega
  rw [f1]
  cases hw : tl w with
  | nil =>
    rw [hw] at hlen
    have : w.length = 0 := hlen
    rw [decide_eq_true (by omega)]
    rfl
  | cons d r =>
    rw [hw] at hlen
    have hlen : w.length = r.length + 1 := hlen
    have hcd : c = d := by
      have := hc (by rw [hw]; simp)
      rw [hw] at this
      exact (Option.some.inj this).symm
    subst hcd
    rw [decide_eq_false (p := ((w.length : Nat) : Int) = 0) (by omega), decide_eq_true (p := (c :: r) ≠ []) (by simp)]
    have g1 : decide ((7 : Int) < ((w.length : Nat) : Int)) = !decide (w.length ≤ 7) := by rw [Bool.eq_iff_iff]; simp; omega
    have g2 : decide ((1 : Int) < ((w.length : Nat) : Int)) = !decide (w.length = 1) := by rw [Bool.eq_iff_iff]; simp; omega
    have g3 : decide ((⟨#[c]⟩ : Str) = ⟨#[48]⟩) = !decide ((c :: r)[0]? ≠ some 48) := by
      rw [Bool.eq_iff_iff]
      simp [one_ext]
    rw [g1, g2, g3]
    cases (c :: r).all isD <;> cases decide (w.length ≤ 7) <;> cases decide (w.length = 1) <;> cases decide ((c :: r)[0]? ≠ some 48) <;> rfl
section
variable {K : PySem.W.Frag} {mg : Str → Option Value}
def sp_law_number (_ : Tx K mg) : Sp := SpA (α := Str) (fun w => w.length ≤ 100000) (fun w => [pu (dat (.str w))]) (fun w => .ok (dat (oD (numO w))))
def rowD : Option (List Int) → PyData
  | none => .none
  | some ns => .list (ns.map .int)
def sp_law_row (_ : Tx K mg) : Sp := SpA (α := Str × Str × Nat) (fun x => x.1.length ≤ 50000 ∧ x.2.2 ≤ 100) (fun x => [pu (dat (.str x.1)), pu (dat (.str x.2.1)), pu (dI x.2.2)]) (fun x => .ok (dat (rowD (rowOf x.2.1 x.2.2 x.1))))
theorem c_law_number {T : Tx K mg} {E : XK} {ρ : List Sl} {te : TE} {w : Str} (hl : w.length ≤ 100000) (h : Ev te ρ (pu (dat (.str w)))) : Ev (tCall (sp_law_number T) [] E (tCons te tNil)) ρ (pu (dat (oD (numO w)))) := ev_call w (ea_cons h ea_nil) hl rfl
end
end Q

set_option Elab.async false
set_option linter.all false
set_option maxRecDepth 100000
set_option maxHeartbeats 4000000
namespace Q
open PySem PySem.Spec PyProof.Rows L2 Z QT TL

def rkS : RK → Str
  | .line => PySem.Str.ofString "line"
  | .vertex => PySem.Str.ofString "vertex"
  | .price => PySem.Str.ofString "price"
  | .many => PySem.Str.ofString "many"
def toldD : Sum (RK × Nat) (Int × List E3) → PyData
  | .inl k => .tuple [.str (rkS k.1), .int (k.2 : Int)]
  | .inr x => .tuple [.int x.1, eEs x.2]
def readF (last : Nat) (s : Int × List E3) (p : Str × Nat) : Sum (Int × List E3) Out :=
  if p.2 = last then (if p.1 ≠ Str.empty ∨ p.2 = 0 then .inr (.rt (dat (toldD (.inl (.line, p.2))))) else .inl s)
  else if p.2 = 0 then (match rowOf headW 1 p.1 with
    | some [m] => if isSize m = true then .inl (m, []) else .inr (.rt (dat (toldD (.inl (.vertex, 0)))))
    | _ => .inr (.rt (dat (toldD (.inl (.line, 0))))))
  else match edgeOf s.1 p.1 with
    | .inl k => .inr (.rt (dat (toldD (.inl (k, p.2)))))
    | .inr e => if s.2.length = 200 then .inr (.rt (dat (toldD (.inl (.many, p.2))))) else .inl (s.1, s.2 ++ [e])
theorem readF_run (m : Int) (lst : Str) : ∀ (r : List Str) (k : Nat) (es : List E3), 1 ≤ k →
    runF (readF (k + r.length)) (m, es) ((r ++ [lst]).zipIdx k) = (match readEs m k r es with
      | .inl e => .inr (.rt (dat (toldD (.inl e))))
      | .inr es' => if lst = Str.empty then .inl (m, es') else .inr (.rt (dat (toldD (.inl (.line, k + r.length))))))
  | [], k, es, hk => by
    show runF (readF (k + 0)) (m, es) [(lst, k)] = (if lst = Str.empty then .inl (m, es) else .inr (.rt (dat (toldD (.inl (.line, k + 0))))))
    unfold runF readF
    rw [if_pos (by rfl)]
    by_cases c : lst = Str.empty
    · rw [if_neg (by show ¬ (lst ≠ Str.empty ∨ k = 0); exact fun z => z.elim (fun z => z c) (by omega)), if_pos c]
      rfl
    · rw [if_pos (Or.inl c), if_neg c]
      rfl
  | l :: r, k, es, hk => by
    have hlen : k + (l :: r).length = (k + 1) + r.length := by rw [List.length_cons]; omega
    rw [hlen, List.cons_append, List.zipIdx_cons]
    unfold runF readEs
    have h1 : readF (k + 1 + r.length) (m, es) (l, k) = (match edgeOf m l with
      | .inl kd => .inr (.rt (dat (toldD (.inl (kd, k)))))
      | .inr e => if es.length = 200 then .inr (.rt (dat (toldD (.inl (.many, k))))) else .inl (m, es ++ [e])) := by
      unfold readF
      rw [if_neg (by show ¬ k = k + 1 + r.length; omega), if_neg (by show ¬ k = 0; omega)]
    rw [h1]
    cases he : edgeOf m l with
    | inl kd => rfl
    | inr e =>
      by_cases c : es.length = 200
      · simp only [if_pos c]
      · simp only [if_neg c]
        exact readF_run m lst r (k + 1) (es ++ [e]) (by omega)
theorem readF_all {ls : List Str} (hne : ls ≠ []) (s : Int × List E3) : runF (readF (ls.length - 1)) s ls.zipIdx = (match readL ls with
    | .inl e => .inr (.rt (dat (toldD (.inl e))))
    | .inr x => .inl x) := by
  have hcat := List.dropLast_concat_getLast hne
  have hlast : ls.getLast? = some (ls.getLast hne) := List.getLast?_eq_some_getLast hne
  generalize hb : ls.dropLast = bd at hcat
  generalize ls.getLast hne = lst at hcat hlast
  cases bd with
  | nil =>
    rw [readL_nil hb]
    have : ls = [lst] := by rw [← hcat]; rfl
    subst this
    show runF (readF 0) s [(lst, 0)] = _
    unfold runF readF
    rw [if_pos rfl, if_pos (Or.inr rfl)]
  | cons l0 r =>
    have hlen : ls.length - 1 = 1 + r.length := by rw [← hcat]; simp; omega
    have hz : ls.zipIdx = (l0, 0) :: (r ++ [lst]).zipIdx 1 := by rw [← hcat]; rfl
    rw [hlen, hz]
    have h1 : readF (1 + r.length) s (l0, 0) = (match rowOf headW 1 l0 with
    | some [m] => if isSize m = true then .inl (m, []) else .inr (.rt (dat (toldD (.inl (.vertex, 0)))))
    | _ => .inr (.rt (dat (toldD (.inl (.line, 0)))))) := by
      unfold readF
      rw [if_neg (by show ¬ 0 = 1 + r.length; omega), if_pos rfl]
    unfold runF
    rw [h1]
    cases hr : rowOf headW 1 l0 with
    | none => rw [readL_none hb hr]
    | some ns =>
      obtain ⟨hl, _⟩ := row_back hr
      match ns, hl, hr with
      | [m], _, hr =>
        by_cases c : isSize m = true
        · rw [readL_es hb hr c]
          simp only [if_pos c]
          rw [readF_run m lst r 1 [] (by decide), hlast]
          cases readEs m 1 r [] with
          | inl e => rfl
          | inr es' =>
            by_cases c2 : lst = Str.empty
            · subst c2; simp
            · have : ¬ some lst = some Str.empty := fun z => c2 (Option.some.inj z)
              simp only [if_neg c2, if_neg this]
              rw [List.length_cons, Nat.add_comm]
        · rw [readL_size hb hr c]
          simp only [if_neg c]
section
variable {K : PySem.W.Frag} {mg : Str → Option Value}
def sp_law_read (_ : Tx K mg) : Sp := SpA (α := Str) (fun t => t.length ≤ 50000) (fun t => [pu (dat (.str t))]) (fun t => .ok (dat (toldD (readT t))))
def sp_law_told (_ : Tx K mg) : Sp := SpA (α := Str) (fun t => t.length ≤ 50000) (fun t => [pu (dat (.str t))]) (fun t => .ok (dat (toldD (readT t))))
theorem c_law_row {T : Tx K mg} {E : XK} {ρ : List Sl} {te ta tb : TE} {line wd : Str} {many : Nat} (hl : line.length ≤ 50000) (hm : many ≤ 100) (h : Ev te ρ (pu (dat (.str line)))) (h1 : Ev ta ρ (pu (dat (.str wd)))) (h2 : Ev tb ρ (pu (dI many))) : Ev (tCall (sp_law_row T) [] E (tCons te (tCons ta (tCons tb tNil)))) ρ (pu (dat (rowD (rowOf wd many line)))) := ev_call (line, wd, many) (ea_cons h (ea_cons h1 (ea_cons h2 ea_nil))) ⟨hl, hm⟩ rfl
end
end Q

set_option Elab.async false
set_option linter.all false
set_option maxRecDepth 100000
set_option maxHeartbeats 4000000
namespace Q
open PySem PySem.Spec PyProof.Rows L2 Z QT TL

theorem readF_len (last : Nat) : ∀ (ps : List (Str × Nat)) {s s' : Int × List E3}, runF (readF last) s ps = .inl s' → s.2.length ≤ 200 → s'.2.length ≤ 200
  | [], s, s', h, hl => by cases h; exact hl
  | p :: ps, s, s', h, hl => by
    unfold runF at h
    cases hf : readF last s p with
    | inr o => rw [hf] at h; cases h
    | inl s1 =>
      rw [hf] at h
      refine readF_len last ps h ?_
      unfold readF at hf
      split at hf
      · split at hf
        · cases hf
        · cases hf; exact hl
      · split at hf
        · split at hf
          · split at hf
            · cases hf; exact Nat.zero_le _
            · cases hf
          · cases hf
        · split at hf
          · cases hf
          · split at hf
            · cases hf
            · next c =>
              cases hf
              show (s.2 ++ _).length ≤ 200
              rw [List.length_append]
              show s.2.length + 1 ≤ 200
              omega
theorem zip_pos {ls : List Str} {pre post : List (Str × Nat)} {l : Str} {k : Nat} (e : ls.zipIdx = pre ++ (l, k) :: post) : k = pre.length := by
  have h := congrArg (fun z : List (Str × Nat) => z[pre.length]?) e
  simp only [List.getElem?_zipIdx, List.getElem?_append_right (Nat.le_refl _), Nat.sub_self, List.getElem?_cons_zero] at h
  cases hh : ls[pre.length]? with
  | none => rw [hh] at h; cases h
  | some x =>
    rw [hh] at h
    have := Option.some.inj h
    have := congrArg Prod.snd this
    simpa using this.symm
theorem readF_leaves {last : Nat} {s : Int × List E3} {p : Str × Nat} {o : Out} (h : readF last s p = .inr o) : o.leaves = true := by
  unfold readF at h
  split at h
  · split at h
    · cases h; rfl
    · cases h
  · split at h
    · split at h
      · split at h
        · cases h
        · cases h; rfl
      · cases h; rfl
    · split at h
      · cases h; rfl
      · split at h
        · cases h; rfl
        · cases h
theorem readF_last {last : Nat} {s : Int × List E3} {l : Str} {k : Nat} (h : k = last) : readF last s (l, k) = if l ≠ Str.empty ∨ k = 0 then .inr (.rt (dat (toldD (.inl (.line, k))))) else .inl s := if_pos h
theorem readF_zero {last : Nat} {s : Int × List E3} {l : Str} (h : 0 ≠ last) : readF last s (l, 0) = (match rowOf headW 1 l with
    | some [m] => if isSize m = true then .inl (m, []) else .inr (.rt (dat (toldD (.inl (.vertex, 0)))))
    | _ => .inr (.rt (dat (toldD (.inl (.line, 0)))))) := by
  unfold readF
  rw [if_neg h, if_pos rfl]
  all_goals
    show (match rowOf headW 1 l with | some [m] => _ | _ => _) = _
    generalize rowOf headW 1 l = o
    match o with
    | none => rfl
    | some [] => rfl
    | some [m] => rfl
    | some (_ :: _ :: _) => rfl
theorem readF_edge {last : Nat} {s : Int × List E3} {l : Str} {k : Nat} (h : k ≠ last) (h2 : k ≠ 0) : readF last s (l, k) = (match edgeOf s.1 l with
    | .inl kd => .inr (.rt (dat (toldD (.inl (kd, k)))))
    | .inr e => if s.2.length = 200 then .inr (.rt (dat (toldD (.inl (.many, k))))) else .inl (s.1, s.2 ++ [e])) := by
  unfold readF
  rw [if_neg h, if_neg h2]
  all_goals
    show (match edgeOf s.1 l with | .inl k => _ | .inr e => _) = _
    generalize edgeOf s.1 l = o
    cases o <;> rfl
theorem ends_law {n u v : Int} (hu : 0 ≤ u) (hv : 0 ≤ v) : (decide (n ≤ u) || (decide (n ≤ v) || decide (u = v))) = !(isEnds n u v) := by
  unfold isEnds
  rw [decide_eq_true hu, decide_eq_true hv]
  have a : decide (u < n) = !decide (n ≤ u) := by rw [Bool.eq_iff_iff]; simp
  have b : decide (v < n) = !decide (n ≤ v) := by rw [Bool.eq_iff_iff]; simp
  rw [a, b]
  cases decide (n ≤ u) <;> cases decide (n ≤ v) <;> cases decide (u = v) <;> rfl
theorem price_law {p : Int} (h : 0 ≤ p) : decide ((1048576 : Int) < p) = !(isPrice p) := by
  unfold isPrice
  rw [decide_eq_true h]
  rw [Bool.eq_iff_iff]; simp
end Q

set_option Elab.async false
set_option linter.all false
set_option maxRecDepth 100000
set_option maxHeartbeats 4000000
namespace Q
open PySem PySem.Spec PyProof.Rows L2 Z QT TL

section
variable {K : PySem.W.Frag} {mg : Str → Option Value} (T : Tx K mg)
theorem Tx.isk : ∀ k k' : EK, PySem.W.kitOne K (.ref (T.cls k)) (.ref (T.cls k')) = some (decide (k = k'))
  | .oor, .oor => T.is_OutOfRange_OutOfRange | .oor, .bv => T.is_OutOfRange_BadVertex | .oor, .bp => T.is_OutOfRange_BadPrice | .oor, .tm => T.is_OutOfRange_TooMany | .oor, .bl => T.is_OutOfRange_BadLine
  | .bv, .oor => T.is_BadVertex_OutOfRange | .bv, .bv => T.is_BadVertex_BadVertex | .bv, .bp => T.is_BadVertex_BadPrice | .bv, .tm => T.is_BadVertex_TooMany | .bv, .bl => T.is_BadVertex_BadLine
  | .bp, .oor => T.is_BadPrice_OutOfRange | .bp, .bv => T.is_BadPrice_BadVertex | .bp, .bp => T.is_BadPrice_BadPrice | .bp, .tm => T.is_BadPrice_TooMany | .bp, .bl => T.is_BadPrice_BadLine
  | .tm, .oor => T.is_TooMany_OutOfRange | .tm, .bv => T.is_TooMany_BadVertex | .tm, .bp => T.is_TooMany_BadPrice | .tm, .tm => T.is_TooMany_TooMany | .tm, .bl => T.is_TooMany_BadLine
  | .bl, .oor => T.is_BadLine_OutOfRange | .bl, .bv => T.is_BadLine_BadVertex | .bl, .bp => T.is_BadLine_BadPrice | .bl, .tm => T.is_BadLine_TooMany | .bl, .bl => T.is_BadLine_BadLine
theorem Tx.emk : ∀ k : EK, PySem.W.exmOne K (.ref (T.cls k)) (.ref T.c_WebError) = some true
  | .oor => T.em_OutOfRange | .bv => T.em_BadVertex | .bp => T.em_BadPrice | .tm => T.em_TooMany | .bl => T.em_BadLine
theorem Tx.ek : ∀ k : EK, ExcC K (T.cls k) ∧ XfC K (T.cls k) ∧ PySem.W.findIn K (.ref (T.cls k)) "at" = some none
  | .oor => ⟨T.e_OutOfRange, T.ef_OutOfRange, T.x_OutOfRange.2.1⟩ | .bv => ⟨T.e_BadVertex, T.ef_BadVertex, T.x_BadVertex.2.1⟩ | .bp => ⟨T.e_BadPrice, T.ef_BadPrice, T.x_BadPrice.2.1⟩ | .tm => ⟨T.e_TooMany, T.ef_TooMany, T.x_TooMany.2.1⟩ | .bl => ⟨T.e_BadLine, T.ef_BadLine, T.x_BadLine.2.1⟩
def kinds4 (k : EK) : List Bool := [decide (k = .bl), decide (k = .bv), decide (k = .bp), decide (k = .tm)]
def rkN : RK → Nat
  | .line => 0
  | .vertex => 1
  | .price => 2
  | .many => 3
theorem kinds_cnt (k : RK) : countIn (.bool true) ((kinds4 (kindT k)).map PyData.bool) = 1 := by cases k <;> decide
theorem kinds_idx (k : RK) : (kinds4 (kindT k))[rkN k]? = some true := by cases k <;> decide
theorem kinds_first (k : RK) : ∀ m b, m < rkN k → (kinds4 (kindT k))[m]? = some b → b ≠ true := by
  intro m b hm hb
  cases k
  · exact absurd hm (Nat.not_lt_zero _)
  · match m, hm with
    | 0, _ => cases hb; decide
  · match m, hm with
    | 0, _ => cases hb; decide
    | 1, _ => cases hb; decide
  · match m, hm with
    | 0, _ => cases hb; decide
    | 1, _ => cases hb; decide
    | 2, _ => cases hb; decide
theorem kinds_word (k : RK) : atI [PyData.str (PySem.Str.ofString "line"), .str (PySem.Str.ofString "vertex"), .str (PySem.Str.ofString "price"), .str (PySem.Str.ofString "many")] ((rkN k : Nat) : Int) = some (.str (rkS k)) := by cases k <;> rfl
end
end Q

set_option Elab.async false
set_option linter.all false
set_option maxRecDepth 100000
set_option maxHeartbeats 4000000
namespace Q
open PySem PySem.Spec PyProof.Rows L2 Z QT TL

def totS (xs : List Str) : Nat := (xs.map fun x => x.length + 1).sum
theorem totS_app (a b : List Str) : totS (a ++ b) = totS a + totS b := by unfold totS; rw [List.map_append, List.sum_append]
theorem joinL_tot (s : Nat) : ∀ {ls : List (List Nat)}, ls ≠ [] → (joinL [s] ls).length + 1 = (ls.map fun x => x.length + 1).sum
  | [], h => absurd rfl h
  | [p], _ => by simp [joinL]
  | p :: q :: r, _ => by
    have ih := joinL_tot s (ls := q :: r) (by simp)
    show (p ++ ([s] ++ joinL [s] (q :: r))).length + 1 = _
    rw [List.map_cons, List.sum_cons, ← ih]
    simp only [List.length_append, List.length_singleton]
    omega
theorem tot_tl (xs : List Str) : ((xs.map tl).map fun x => x.length + 1).sum = totS xs := by
  unfold totS
  rw [List.map_map]
  congr 1
theorem join_le (s : Nat) (ys : List Str) : (Txt.join (sepS s) ys).length ≤ totS ys := by
  rw [join_eq, len_tl, tl_join]
  show (joinL [s] (ys.map tl)).length ≤ _
  cases ys with
  | nil => exact Nat.zero_le _
  | cons y ys =>
    have := joinL_tot s (ls := (y :: ys).map tl) (by simp)
    rw [tot_tl] at this
    omega
theorem split_tot (x : Str) {s : Nat} (hs : s < 256) : totS (Txt.split x (sepS s)) = x.length + 1 := by
  have h := joinL_tot s (ls := (Txt.split x (sepS s)).map tl) (by have := split_ne x hs; simpa using this)
  rw [tot_tl, ← split_back x hs, ← len_tl] at h
  exact h.symm
theorem tot_at {xs : List Str} {i : Nat} (h : i < xs.length) : totS (xs.take i) + (xs[i].length + 1) + totS (xs.drop (i + 1)) = totS xs := by
  have e : xs = xs.take i ++ (xs[i] :: xs.drop (i + 1)) := by rw [List.getElem_cons_drop, List.take_append_drop]
  conv => rhs; rw [e]
  rw [totS_app]
  have : totS (xs[i] :: xs.drop (i + 1)) = (xs[i].length + 1) + totS (xs.drop (i + 1)) := by unfold totS; rw [List.map_cons, List.sum_cons]
  omega
theorem tot_mem {xs : List Str} {x : Str} (h : x ∈ xs) : x.length + 1 ≤ totS xs := by
  obtain ⟨i, hi, e⟩ := List.getElem_of_mem h
  have := tot_at hi
  rw [e] at this
  omega
theorem tot_set {xs : List Str} {i : Nat} {y : Str} (h : i < xs.length) (hy : y.length ≤ xs[i].length + 8) : totS (xs.set i y) ≤ totS xs + 8 := by
  have a := tot_at h
  have b := tot_at (xs := xs.set i y) (i := i) (by rw [List.length_set]; exact h)
  rw [List.take_set_of_le (Nat.le_refl _), List.getElem_set_self, List.drop_set_of_lt (Nat.lt_succ_self _), Nat.succ_eq_add_one] at b
  omega
theorem tot_sum (ys : List Str) : (ys.map (·.length)).sum + ys.length = totS ys := by
  induction ys with
  | nil => rfl
  | cons y ys ih =>
    unfold totS at *
    rw [List.map_cons, List.map_cons, List.sum_cons, List.sum_cons, List.length_cons]
    omega
theorem cut_take {ds : List PyData} {k : Nat} (h : k ≤ ds.length) : Z.cutD ds none (some (k : Int)) = ds.take k := by
  unfold Z.cutD
  rw [show HT.sIx ds.length 0 none = 0 from rfl, HT.sIx_nat]
  simp
theorem cut_drop {ds : List PyData} {k : Nat} (h : k ≤ ds.length) : Z.cutD ds (some (k : Int)) none = ds.drop k := by
  unfold Z.cutD
  rw [HT.sIx_nat, show HT.sIx ds.length ds.length none = ds.length from rfl, Nat.min_eq_left h]
  rw [List.take_of_length_le (by rw [List.length_drop]; omega)]
theorem one_len (c : Nat) : (⟨#[c]⟩ : Str).length = 1 := rfl
def chP (n : Nat) (s : Str) : Prop := s.length ≤ 2 * n + 20
section
variable {K : PySem.W.Frag} {mg : Str → Option Value}
def sp_law_changed (_ : Tx K mg) : Sp := SpA (α := List Int × Int × Str) (fun x => x.2.2.length ≤ 20000 ∧ 1 ≤ x.2.2.length) (fun x => [bL (x.1.map .int), pu (dI x.2.1), pu (dat (.str x.2.2))]) (fun x => .ok (exR (chP x.2.2.length) dS))
end
end Q

set_option Elab.async false
set_option linter.all false
set_option maxRecDepth 100000
set_option maxHeartbeats 4000000
namespace Q
open PySem PySem.Spec PyProof.Rows L2 Z QT TL

theorem fineT_of {n : Int} {es : List E3} (F : Fine n es) : FineT n es := ⟨by unfold isSize; rw [decide_eq_true F.lo, decide_eq_true F.hi]; rfl, F.len, fun e he => ⟨F.ends e he, F.price e he⟩⟩
def topN (ds : List Int) : Int := [3, 60, 1048577].getD (mix ds 0 3).toNat 0
theorem top_bd (ds : List Int) : 0 < topN ds ∧ topN ds ≤ 1048577 := by
  have m := mix_bd (ds := ds) (k := 0) (many := 3) (by decide)
  have h : mix ds 0 3 = 0 ∨ mix ds 0 3 = 1 ∨ mix ds 0 3 = 2 := by omega
  unfold topN
  rcases h with h | h | h <;> rw [h] <;> decide
theorem sh_rk {k : Nat} {r : RK} : Sh k (.str (rkS r)) := ⟨by cases r <;> decide +kernel, Nat.zero_le _⟩
theorem sh_es (es : List E3) : Sh 2 (eEs es) := sh_list (sh_map fun e _ => sh_tup (sh_cons sh_int (sh_cons sh_int (sh_cons sh_int sh_nil))))
theorem sh_told (r : Sum (RK × Nat) (Int × List E3)) : Sh 3 (toldD r) := by
  cases r with
  | inl k => exact sh_tup (sh_cons sh_rk (sh_cons sh_int sh_nil))
  | inr x => exact sh_tup (sh_cons sh_int (sh_cons (sh_es x.2) sh_nil))
section
variable {K : PySem.W.Frag} {mg : Str → Option Value} {T : Tx K mg} {E : XK} {ρ : List Sl} {te ta tb : TE}
theorem ev_ty {x : String} : Ev (tC (.ty x)) ρ (pu ⟨fun _ v => v = .ty x, fun _ h => h⟩) := Ev.pure fun Q s q => q _ _ _ (Same.refl _) s rfl
theorem c_draws {xs : List Int} (hl : xs.length ≤ 63) (h : Ev te ρ (pu (scR K xs))) : EvN (tCall (sp_law_draws T) [] E (tCons te tNil)) ρ ((drawsL xs).map .int) := en_call xs (ea_cons h ea_nil) hl rfl
theorem c_write {n : Int} {es : List E3} (F : FineT n es) (h : Ev te ρ (pu (netR T n es))) : Ev (tCall (sp_write_network T) [] E (tCons te tNil)) ρ (pu (dat (.str (netS n es)))) := ev_call (n, es) (ea_cons h ea_nil) F rfl
theorem c_ltext {n : Int} {es : List E3} (F : FineT n es) (h : Ev te ρ (pu (dI n))) (h1 : Ev ta ρ (pu (dat (eEs es)))) : Ev (tCall (sp_law_text T) [] E (tCons te (tCons ta tNil))) ρ (pu (dat (.str (netS n es)))) := ev_call (n, es) (ea_cons h (ea_cons h1 ea_nil)) F rfl
theorem c_told {t : Str} (hl : t.length ≤ 50000) (h : Ev te ρ (pu (dat (.str t)))) : Ev (tCall (sp_law_told T) [] E (tCons te tNil)) ρ (pu (dat (toldD (readT t)))) := ev_call t (ea_cons h ea_nil) hl rfl
theorem c_lread {t : Str} (hl : t.length ≤ 50000) (h : Ev te ρ (pu (dat (.str t)))) : Ev (tCall (sp_law_read T) [] E (tCons te tNil)) ρ (pu (dat (toldD (readT t)))) := ev_call t (ea_cons h ea_nil) hl rfl
theorem c_changed {ds : List Int} {k : Int} {t : Str} (hl : t.length ≤ 20000 ∧ 1 ≤ t.length) (h : Ev te ρ (bL (ds.map .int))) (h1 : Ev ta ρ (pu (dI k))) (h2 : Ev tb ρ (pu (dat (.str t)))) : Ev (tCall (sp_law_changed T) [] E (tCons te (tCons ta (tCons tb tNil)))) ρ (pu (exR (chP t.length) dS)) := ev_call (ds, k, t) (ea_cons h (ea_cons h1 (ea_cons h2 ea_nil))) hl rfl
theorem c_read {t : Str} {n : Int} {es : List E3} (hl : t.length ≤ 1000000) (hR : readT t = .inr (n, es)) (h : Ev te ρ (pu (dat (.str t)))) : Ev (tCall (sp_read_network T) [] E (tCons te tNil)) ρ (pu (netR T n es)) := ev_call t (ea_cons h ea_nil) hl (by show readR T (readT t) = _; rw [hR]; rfl)
end

section
variable {K : PySem.W.Frag} {W : WX} {ρ : List Sl} {te : TE} {i : Nat}
theorem ExS.appEx {ds : List PyData} {α : Type} {P : α → Prop} {f : α → PyData} {T : String} (hi : ρ[i]? = some (.o (oL ds))) (he : Ev te ρ (pu (exR P fun x => dat (f x)))) (hz : ds.length < 1000000) (hT : T = "list") : ExS W (tDrop (tBM K T rAppend (tVar i) (tCons te tNil))) ρ (fun o => ∃ x, P x ∧ o = .nx (ρ.set i (.o (oL (ds ++ [f x]))))) := ⟨fun {G σ L0 H} D s q => by
  obtain ⟨a, cs, e, ⟨vs, hcs, hd⟩, hh, _⟩ := s.get_o hi
  subst hcs
  refine ⟨_, e, .inl ⟨hT, vs, .inl (.inl (hh _ (List.mem_cons_self ..)))⟩, ?_⟩
  refine he.atp s fun G1 H1 v e1 s1 r => ?_
  obtain ⟨x, px, r⟩ := r
  obtain ⟨a', cs', e', ⟨vs', hcs', hd'⟩, hh', k1, _⟩ := s1.get_o hi
  rw [e] at e'
  injection e' with e'; injection e' with e'; injection e' with e'
  subst e' hcs'
  refine ⟨a, vs', v, rfl, rfl, hh' _ (List.mem_cons_self ..), ?_, ?_⟩
  · rw [dpAll_len hd']; exact Nat.lt_trans hz (by decide)
  · exact q _ ⟨x, px, rfl⟩ G1 _ _ e1 (k1 (oL (ds ++ [f x])) [(a, .lst (vs' ++ [v]))] _ ⟨_, rfl, dpAll_app hd' (.cons r .nil)⟩ fun M l => l.store)⟩
theorem ExS.goW {α : Type} {t : TS} {I : α → Prop} {ρ2 E : α → List Sl} {S2 : Out → Prop} (h : ExS W t ρ (fun o => ∃ s, I s ∧ o = .nx (ρ2 s))) (w : ∀ s, Wk (ρ2 s) (E s)) : ExS W t ρ (fun o => (∃ s, I s ∧ o = .go (E s)) ∨ S2 o) := ⟨fun D s q => h.run D s fun o ⟨x, hx, e⟩ => by
  rw [e]
  exact Nx.weak (w x) (q (.go (E x)) (.inl ⟨x, hx, rfl⟩)).1⟩
end
def bnd (k : Nat) : Nat := 420 * 2 ^ k - 20
theorem bnd_s (k : Nat) : bnd (k + 1) = 2 * bnd k + 20 := by
  unfold bnd
  have : 1 ≤ 2 ^ k := Nat.one_le_two_pow
  rw [Nat.pow_succ]
  omega
theorem bnd_5 {k : Nat} (h : k < 6) : 400 ≤ bnd k ∧ bnd k ≤ 13420 := by
  have : k = 0 ∨ k = 1 ∨ k = 2 ∨ k = 3 ∨ k = 4 ∨ k = 5 := by omega
  rcases this with h | h | h | h | h | h <;> rw [h] <;> decide
structure Tx6 (k : Nat) (ys : List Str) : Prop where
  len : ys.length ≤ 5 + k
  ne : ys ≠ []
  bd : ∀ y ∈ ys, y.length ≤ bnd k
theorem at_last {ys : List Str} (h : ys ≠ []) : atI (ys.map PyData.str) (-1) = some (.str (ys.getLast h)) := by
  have hp := List.length_pos_iff.mpr h
  unfold atI ixN
  rw [if_neg (by decide), if_pos (by rw [List.length_map]; omega)]
  show (ys.map PyData.str)[(-1 + ((ys.map PyData.str).length : Int)).toNat]? = _
  rw [List.length_map, List.getElem?_map, List.getLast_eq_getElem, show (-1 + (ys.length : Int)).toNat = ys.length - 1 by omega, List.getElem?_eq_getElem (by omega)]
  rfl
end Q

set_option Elab.async false
set_option linter.all false
set_option maxRecDepth 100000
set_option maxHeartbeats 4000000
namespace Q
open PySem PySem.Spec PyProof.Rows L2 Z QT TL
local macro_rules | `(tactic| walk_at "zo") => `(tactic| first
  | with_reducible exact o_int0 | with_reducible exact o_bool0 | exact o_eqI | exact o_neI
  | exact o_intC (by assumption) | exact o_intC (by show (0 : Int) < _; omega) | exact o_intC ⟨by omega, by omega⟩ | exact o_intC (Or.inr ⟨by omega, by omega⟩) | exact o_intC (Or.inl ⟨by omega, by omega⟩) | exact o_intC ⟨by decide, by decide, by decide⟩
  | exact o_ixL (by assumption) | exact Op2.l (o_ixL (by assumption)) | exact o_ixT rfl | exact o_inT2 | exact o_inT | exact o_inL | exact Op2.r o_inL | exact o_notInL | exact Op2.r o_notInL | exact o_isN | exact o_notN)
local macro_rules | `(tactic| walk_at "zc") => `(tactic| first
  | exact cl_len | exact cl_lenP | exact cl_int | exact cl_abs | exact cl_min2 | exact cl_max2 | exact cl_intB | exact cl_sum | exact cl_any | exact cl_all)
local macro_rules | `(tactic| walk_at "za") => `(tactic| first
  | with_reducible exact ea_nil | with_reducible exact ed_nil
  | ((with_reducible refine' ed_cons ?z1 ?z2); (case z1 => walk_at "ze"); (case z2 => walk_at "za"))
  | ((with_reducible refine' ea_cons ?z1 ?z2); (case z1 => walk_at "ze"); (case z2 => walk_at "za")))
local macro_rules | `(tactic| walk_at "ze") => `(tactic| first
  | with_reducible assumption
  | with_reducible exact ev_int | with_reducible exact ev_bl | with_reducible exact ev_non | with_reducible exact ev_str
  | ((with_reducible refine' ev_b ?z1); (case z1 => rfl)) | ((with_reducible refine' ev_var ?z1); (case z1 => rfl)) | ((with_reducible refine' ev_o ?z1); (case z1 => rfl))
  | ((with_reducible refine' ev_op ?z1 ?z2 ?z3); (case z1 => walk_at "ze"); (case z2 => walk_at "ze"); (case z3 => walk_at "zo"))
  | ((with_reducible refine' ev_chain ?z1 ?z2 ?z3 ?z4 ?z5); (case z1 => walk_at "ze"); (case z2 => walk_at "ze"); (case z4 => walk_at "zo"); (case z3 => intro _; walk_at "ze"); (case z5 => intro _; walk_at "zo"))
  | ((with_reducible refine' ev_andV ?z1 ?z2); (case z1 => walk_at "ze"); (case z2 => intro _; walk_at "ze"))
  | ((with_reducible refine' ev_orV ?z1 ?z2); (case z1 => walk_at "ze"); (case z2 => intro _; walk_at "ze"))
  | ((with_reducible refine' ev_notV ?z1); (case z1 => walk_at "ze"))
  | ((with_reducible refine' ev_neg ?z1); (case z1 => walk_at "ze"))
  | ((with_reducible refine' ev_tupD ?z1 ?z2); (case z1 => walk_at "za"); (case z2 => exact Nat.le_of_ble_eq_true rfl))
  | ((with_reducible refine' ev_cb ?z1 ?z2); (case z1 => walk_at "za"); (case z2 => walk_at "zc"))
  | ((with_reducible refine' EvN.ev ?z1); (case z1 => walk_at "zn"))
  | walk_at "zf")
local macro_rules | `(tactic| walk_at "zb") => `(tactic| first
  | with_reducible assumption
  | ((with_reducible refine' ev_b ?z1); (case z1 => rfl)) | ((with_reducible refine' ev_o ?z1); (case z1 => rfl))
  | ((with_reducible refine' Ev.bl ?z1); (case z1 => walk_at "ze")))
local macro_rules | `(tactic| walk_at "zn") => `(tactic| first
  | with_reducible assumption
  | ((with_reducible refine' en_lstD ?z1 ?z2); (case z1 => walk_at "za"); (case z2 => exact Nat.le_of_ble_eq_true rfl))
  | ((with_reducible refine' en_cb ?z1 ?z2); (case z1 => walk_at "za"); (case z2 => first | exact cl_list | exact cl_listP)))
local macro_rules | `(tactic| walk_at "zt") => `(tactic| first
  | with_reducible assumption
  | ((with_reducible refine' et_test ?z1); (case z1 => walk_at "ze"))
  | ((with_reducible refine' et_B ?z1); (case z1 => walk_at "ze"))
  | ((with_reducible refine' et_and ?z1 ?z2); (case z1 => walk_at "zt"); (case z2 => intro _; walk_at "zt"))
  | ((with_reducible refine' et_or ?z1 ?z2); (case z1 => walk_at "zt"); (case z2 => intro _; walk_at "zt"))
  | ((with_reducible refine' et_not ?z1); (case z1 => walk_at "zt")))
local macro_rules | `(tactic| walk_at "zf") => `(tactic| first
  | ((with_reducible refine' c_is_size ?z1); (case z1 => walk_at "ze"))
  | ((with_reducible refine' c_is_price ?z1); (case z1 => walk_at "ze"))
  | ((with_reducible refine' c_are_ends ?z1 ?z2 ?z3); (case z1 => walk_at "ze"); (case z2 => walk_at "ze"); (case z3 => walk_at "ze"))
  | ((with_reducible refine' c_mix ?z0 ?z1 ?z2 ?z3); (case z1 => walk_at "zb"); (case z2 => walk_at "ze"); (case z3 => walk_at "ze"); (case z0 => first | assumption | omega | decide))
  | ((with_reducible refine' fld_size (by assumption) ?z1); (case z1 => walk_at "ze"))
  | ((with_reducible refine' fld_edges (by assumption) ?z1); (case z1 => walk_at "ze")))
local macro_rules | `(tactic| walk_at "zc") => `(tactic| exact cl_lenS)
local macro_rules | `(tactic| walk_at "zo") => `(tactic| exact o_ixS (by omega) (by assumption))
local macro_rules | `(tactic| walk_at "zf") => `(tactic| ((with_reducible refine' c_is_number ?z0 ?z1); (case z1 => walk_at "ze"); (case z0 => first | assumption | omega)))
local macro_rules | `(tactic| walk_at "ze") => `(tactic| ((with_reducible refine' ev_is0 ?z1); (case z1 => walk_at "ze")))
local macro_rules | `(tactic| walk_at "zc") => `(tactic| exact cl_lenStr (by show _ ≤ 16777216; omega))
local macro_rules | `(tactic| walk_at "zo") => `(tactic| first | exact o_eqS | exact o_neS)
section
variable {P : Program} {w : World} {K : PySem.W.Frag} {mg : Str → Option Value} {base : Heap}
theorem ok_WebError___init__ (T : Tx K mg) : FnOk P w K mg base (L2.CX P w) 1 T.f_WebError___init__ T.fd_WebError___init__ ["self", "at"] (spAt K) := by
  refine T.F_WebError___init__.okX sc_WebError___init__ (fun vs H Q E ⟨a, C, n, e, _⟩ => by rw [e]; rfl) (fun cdv A outer s H vs Q E hr h => ⟨_, (pss_one (ps_ost (pv 0) (pv 1))), pure_at vs H Q E h⟩)
theorem ok_is_size (T : Tx K mg) : FnOk P w K mg base (L2.CX P w) 1 T.f_is_size T.fd_is_size ["size"] (sp_is_size T) := by
  refine T.F_is_size.okX sc_is_size (SpA.len fun _ => rfl) (fun cdv A outer s H vs Q E hr h => ⟨_, (pss_one (ps_ret (pe_chain op_le op_le pe_int (pv 0) (pe_glob (v := .int 40) (by rfl) T.k_MOST_VERTICES ⟨_, rfl⟩)))), ?_⟩)
  refine SpA.go h N_is_size 1 (fun _ => rfl) ?_
  rintro n -
  exact ⟨_, [], rfl, Ex.is (Ex.ret (by walk_at "ze")) (by rfl)⟩

theorem ok_is_price (T : Tx K mg) : FnOk P w K mg base (L2.CX P w) 1 T.f_is_price T.fd_is_price ["price"] (sp_is_price T) := by
  refine T.F_is_price.okX sc_is_price (SpA.len fun _ => rfl) (fun cdv A outer s H vs Q E hr h => ⟨_, (pss_one (ps_ret (pe_chain op_le op_le pe_int (pv 0) (pe_glob (v := .int 1048576) (by rfl) T.k_MOST_PRICE ⟨_, rfl⟩)))), ?_⟩)
  refine SpA.go h N_is_price 1 (fun _ => rfl) ?_
  rintro n -
  exact ⟨_, [], rfl, Ex.is (Ex.ret (by walk_at "ze")) (by rfl)⟩

theorem ok_are_ends (T : Tx K mg) : FnOk P w K mg base (L2.CX P w) 1 T.f_are_ends T.fd_are_ends ["size", "u", "v"] (sp_are_ends T) := by
  refine T.F_are_ends.okX sc_are_ends (SpA.len fun _ => rfl) (fun cdv A outer s H vs Q E hr h => ⟨_, (pss_one (ps_ret (pe_and (pe_chain op_le op_lt pe_int (pv 1) (pv 0)) (pe_and (pe_chain op_le op_lt pe_int (pv 2) (pv 0)) (pe_one (pe_cmpR op_ne (pv 1) (pv 2) (nomark _))))))), ?_⟩)
  refine SpA.go h N_are_ends 3 (fun _ => rfl) ?_
  rintro ⟨n, u, v⟩ -
  exact ⟨_, [], rfl, Ex.is (Ex.ret (by walk_at "ze")) (by rfl)⟩

theorem ok_Network___init__ (T : Tx K mg) : FnOk P w K mg base (L2.CX P w) 3 T.f_Network___init__ T.fd_Network___init__ ["self", "size", "edges"] (sp_Network___init__ T) := by
  refine T.F_Network___init__.okX sc_Network___init__ (SpI.len fun _ => rfl) (fun cdv A outer s H vs Q E hr h => ⟨_, (pss_cons (ps_if (pt_not (pt_val (pe_call (ok_is_size T) (hr.mono (by decide)) (by rfl) T.g_is_size T.F_is_size.kp T.b_is_size .nil (passes_call (takes_of rfl rfl rfl rfl) fun _ _ _ _ z => z) (pa_cons (pv 1) pa_nil))))
        (pss_one (ps_raise rfl (takes_of rfl rfl rfl rfl) (pmk_oex T.x_OutOfRange.1 T.x_OutOfRange.2.2.1 T.x_OutOfRange.2.2.2.1 (ok_WebError___init__ T) (hr.mono (by decide)) T.b_WebError___init__ .nil pass_no (by rfl) T.x_OutOfRange.2.2.2.2 (pa_cons (pv 1) pa_nil))))
        pss_nil)
      (pss_cons (ps_if (pt_cmpR op_gt (pe_callB (kcall_len K) (by rfl) T.z_len PySem.boot_len (pa_cons (pv 2) pa_nil)) (pe_glob (v := .int 200) (by rfl) T.k_MOST_EDGES ⟨_, rfl⟩) (nomark _))
        (pss_one (ps_raise rfl (takes_of rfl rfl rfl rfl) (pmk_oex T.x_TooMany.1 T.x_TooMany.2.2.1 T.x_TooMany.2.2.2.1 (ok_WebError___init__ T) (hr.mono (by decide)) T.b_WebError___init__ .nil pass_no (by rfl) T.x_TooMany.2.2.2.2 (pa_cons (pe_callB (kcall_len K) (by rfl) T.z_len PySem.boot_len (pa_cons (pv 2) pa_nil)) pa_nil))))
        pss_nil)
      (pss_cons (ps_for (passes_of rfl) rfl (kpi_enum K (by rfl) T.z_enumerate (pa_cons (pv 2) pa_nil)) (kpg_tup K (n := 2) rfl (pgs_cons (pg_name (i := 3) sc_Network___init__.nd rfl (by first | exact Or.inl rfl | exact Or.inr rfl)) (pgs_cons (kpg_tup K (n := 3) rfl (pgs_cons (pg_name (i := 4) sc_Network___init__.nd rfl (by first | exact Or.inl rfl | exact Or.inr rfl)) (pgs_cons (pg_name (i := 5) sc_Network___init__.nd rfl (by first | exact Or.inl rfl | exact Or.inr rfl)) (pgs_cons (pg_name (i := 6) sc_Network___init__.nd rfl (by first | exact Or.inl rfl | exact Or.inr rfl)) pgs_nil)))) pgs_nil)))
        (pss_cons (ps_if (pt_not (pt_val (pe_call (ok_are_ends T) (hr.mono (by decide)) (by rfl) T.g_are_ends T.F_are_ends.kp T.b_are_ends .nil (passes_call (takes_of rfl rfl rfl rfl) fun _ _ _ _ z => z) (pa_cons (pv 1) (pa_cons (pv 4) (pa_cons (pv 5) pa_nil))))))
        (pss_one (ps_raise rfl (takes_of rfl rfl rfl rfl) (pmk_oex T.x_BadVertex.1 T.x_BadVertex.2.2.1 T.x_BadVertex.2.2.2.1 (ok_WebError___init__ T) (hr.mono (by decide)) T.b_WebError___init__ .nil pass_no (by rfl) T.x_BadVertex.2.2.2.2 (pa_cons (pv 3) pa_nil))))
        pss_nil)
      (pss_one (ps_if (pt_not (pt_val (pe_call (ok_is_price T) (hr.mono (by decide)) (by rfl) T.g_is_price T.F_is_price.kp T.b_is_price .nil (passes_call (takes_of rfl rfl rfl rfl) fun _ _ _ _ z => z) (pa_cons (pv 6) pa_nil))))
        (pss_one (ps_raise rfl (takes_of rfl rfl rfl rfl) (pmk_oex T.x_BadPrice.1 T.x_BadPrice.2.2.1 T.x_BadPrice.2.2.2.1 (ok_WebError___init__ T) (hr.mono (by decide)) T.b_WebError___init__ .nil pass_no (by rfl) T.x_BadPrice.2.2.2.2 (pa_cons (pv 3) pa_nil))))
        pss_nil))))
      (pss_cons (kps_fld K (pv 0) (pv 1) rfl)
      (pss_one (kps_fld K (pv 0) (pe_lc (own := [("u", 4), ("v", 5), ("price", 6)]) (g := (gTup K 3 (gCons (gName 4) (gCons (gName 5) (gCons (gName 6) gNil))))) rfl sc_Network___init__.nd (kpi_list K (pv 2)) (blkOk_by (N := N_Network___init__) (sc := defScope s_Network___init__) (by decide +kernel)) (fun _ _ _ _ _ => (kpg_tup K (n := 3) rfl (pgs_cons (pg_name (i := 4) sc_Network___init__.nd rfl (by first | exact Or.inl rfl | exact Or.inr rfl)) (pgs_cons (pg_name (i := 5) sc_Network___init__.nd rfl (by first | exact Or.inl rfl | exact Or.inr rfl)) (pgs_cons (pg_name (i := 6) sc_Network___init__.nd rfl (by first | exact Or.inl rfl | exact Or.inr rfl)) pgs_nil))))) (fun _ _ _ _ _ => pts_nil) (fun _ _ _ _ _ => (pe_tup (pa_cons (pv 4) (pa_cons (pv 5) (pa_cons (pv 6) pa_nil)))))) rfl)))))), ?_⟩)
  refine SpI.run (N := N_Network___init__) (m := 2) h (fun _ => rfl) ?_
  rintro ⟨n, es⟩ a -
  let ρ0 : List Sl := [.o (oI T.c_Network a []), .b (pu (dI n)), .b (bL (es.map eE)), .x, .x, .x, .x]
  by_cases c1 : isSize n = true
  case neg =>
    refine .inr ⟨_, _, ρ0, netI_err T (show netErr n es = some (.oor, n) from if_neg c1), ?_⟩
    refine Ex.ite (b := !(isSize n)) (EvT.is (by walk_at "zt") (by rfl)) (fun z => ?_) (fun z => ?_)
    · exact Ex.seqE (Ex.raise_ (by walk_at "za") T.x_OutOfRange.1 T.x_OutOfRange.2.1) rfl
    · exact absurd (by simpa using z) c1
  case pos =>
    have e0 : netErr n es = if 200 < (es.length : Int) then some (.tm, (es.length : Int)) else firstBad n es.zipIdx := if_pos c1
    have hl : (((es.map eE).length : Nat) : Int) = (es.length : Int) := by rw [List.length_map]
    by_cases c2 : 200 < (es.length : Int)
    case pos =>
      refine .inr ⟨_, _, ρ0, netI_err T (e0.trans (if_pos c2)), ?_⟩
      refine Ex.ite (b := !(isSize n)) (EvT.is (by walk_at "zt") (by rfl)) (fun z => by rw [c1] at z; cases z) (fun _ => Ex.skip ?_)
      refine Ex.ite (b := decide ((200 : Int) < (es.map eE).length)) (by walk_at "zt") (fun z => ?_) (fun z => ?_)
      · rw [← hl]
        exact Ex.seqE (Ex.raise_ (by walk_at "za") T.x_TooMany.1 T.x_TooMany.2.1) rfl
      · exact absurd c2 (by rw [← hl]; exact of_decide_eq_false z)
    case neg =>
      -- the loop over the edges
      have loop := Ex.forF (K := K) (W := WofE E) (S := Unit) (ρ := ρ0) (wi := iEnum K (tCons (tVar 2) tNil)) (xs := es.zipIdx) (en := fun p : E3 × Nat => .tuple [.int (p.2 : Int), eE p.1]) (T := []) (s0 := ()) (g := gTup K 2 (gCons (gName 3) (gCons (gTup K 3 (gCons (gName 4) (gCons (gName 5) (gCons (gName 6) gNil)))) gNil)))
        (tb := tSeq (tIfS (tNot (tB (tCall (sp_are_ends T) [] E (tCons (tVar 1) (tCons (tVar 4) (tCons (tVar 5) tNil)))))) (fun _ σ H => tMkO T.c_BadVertex (spAt K) [] (tCons (tVar 3) tNil) σ H fun cls d H' => E cls d H') tNext)
          (tIfS (tNot (tB (tCall (sp_is_price T) [] E (tCons (tVar 6) tNil)))) (fun _ σ H => tMkO T.c_BadPrice (spAt K) [] (tCons (tVar 3) tNil) σ H fun cls d H' => E cls d H') tNext))
        (fun _ => ρ0)
        (fun _ p => match badEdge n p.1 with | some k => .inr (.xc [.o (oI T.c_Network a []), .b (pu (dI n)), .b (bL (es.map eE)), .p (dI (p.2 : Int)), .p (dI p.1.1), .p (dI p.1.2.1), .p (dI p.1.2.2)] (T.cls k) (p.2 : Int)) | none => .inl ())
        (ei_enumT (es_b rfl)) (Wk.refl _) (fun pre p post s e r => ⟨fun o ho => (by
            split at ho
            · cases ho; rfl
            · cases ho), [3, 4, 5, 6], [.o (oI T.c_Network a []), .b (pu (dI n)), .b (bL (es.map eE)), .p (dI (p.2 : Int)), .p (dI p.1.1), .p (dI p.1.2.1), .p (dI p.1.2.2)],
          eg_tup (egs_cons eg_name (egs_cons (eg_tup (egs_cons eg_name (egs_cons eg_name (egs_cons eg_name egs_nil))) rfl) egs_nil)) rfl, by
            rcases badEdge_cases n p.1 with ⟨h1, h2⟩ | ⟨h1, h2, h3⟩ | ⟨h1, h2, h3⟩
            · rw [h2]
              refine Ex.ite (b := !(isEnds n p.1.1 p.1.2.1)) (EvT.is (by walk_at "zt") (by rfl)) (fun z => ?_) (fun z => by rw [h1] at z; cases z)
              exact Ex.seqE (Ex.raise_ (by walk_at "za") T.x_BadVertex.1 T.x_BadVertex.2.1) rfl
            · rw [h3]
              refine Ex.ite (b := !(isEnds n p.1.1 p.1.2.1)) (EvT.is (by walk_at "zt") (by rfl)) (fun z => by rw [h1] at z; cases z) (fun _ => Ex.skip ?_)
              refine Ex.ife (b := !(isPrice p.1.2.2)) (EvT.is (by walk_at "zt") (by rfl)) (fun z => ?_) (fun z => by rw [h2] at z; cases z)
              exact Ex.raise_ (by walk_at "za") T.x_BadPrice.1 T.x_BadPrice.2.1
            · rw [h3]
              refine Ex.ite (b := !(isEnds n p.1.1 p.1.2.1)) (EvT.is (by walk_at "zt") (by rfl)) (fun z => by rw [h1] at z; cases z) (fun _ => Ex.skip ?_)
              refine Ex.ife (b := !(isPrice p.1.2.2)) (EvT.is (by walk_at "zt") (by rfl)) (fun z => by rw [h2] at z; cases z) (fun _ => ?_)
              exact Ex.go (Ex.out (.k (.k (.k (.x (.x (.x (.x .nil))))))) Ex.next)⟩)
      have run : ∀ ps : List (E3 × Nat), runF (fun (_ : Unit) (p : E3 × Nat) => (match badEdge n p.1 with | some k => .inr (.xc [.o (oI T.c_Network a []), .b (pu (dI n)), .b (bL (es.map eE)), .p (dI (p.2 : Int)), .p (dI p.1.1), .p (dI p.1.2.1), .p (dI p.1.2.2)] (T.cls k) (p.2 : Int)) | none => .inl () : Sum Unit Out)) () ps = .inl () ∧ firstBad n ps = none ∨
          ∃ k m ρ, runF (fun (_ : Unit) (p : E3 × Nat) => (match badEdge n p.1 with | some k => .inr (.xc [.o (oI T.c_Network a []), .b (pu (dI n)), .b (bL (es.map eE)), .p (dI (p.2 : Int)), .p (dI p.1.1), .p (dI p.1.2.1), .p (dI p.1.2.2)] (T.cls k) (p.2 : Int)) | none => .inl () : Sum Unit Out)) () ps = .inr (.xc ρ (T.cls k) m) ∧ firstBad n ps = some (k, m) := by
        intro ps
        induction ps with
        | nil => exact .inl ⟨rfl, rfl⟩
        | cons p ps ih =>
          cases hb : badEdge n p.1 with
          | some k =>
            refine .inr ⟨k, (p.2 : Int), [.o (oI T.c_Network a []), .b (pu (dI n)), .b (bL (es.map eE)), .p (dI (p.2 : Int)), .p (dI p.1.1), .p (dI p.1.2.1), .p (dI p.1.2.2)], ?_, ?_⟩
            · unfold runF; simp only [hb]
            · unfold firstBad; simp only [hb]
          | none =>
            have e1 : firstBad n (p :: ps) = firstBad n ps := by conv => lhs; unfold firstBad; simp only [hb]
            rw [e1]
            unfold runF
            simp only [hb]
            exact ih
      rcases run es.zipIdx with ⟨r1, r2⟩ | ⟨k, m, ρ, r1, r2⟩
      · rw [r1] at loop
        refine .inl ⟨_, [.o (oI T.c_Network a (netF n es)), .b (pu (dI n)), .b (bL (es.map eE)), .x, .x, .x, .x], netI_ok T (e0.trans ((if_neg c2).trans r2)), rfl, ?_⟩
        refine Ex.ite (b := !(isSize n)) (EvT.is (by walk_at "zt") (by rfl)) (fun z => by rw [c1] at z; cases z) (fun _ => Ex.skip ?_)
        refine Ex.ite (b := decide ((200 : Int) < (es.map eE).length)) (by walk_at "zt") (fun z => absurd (by rw [← hl]; exact of_decide_eq_true z) c2) (fun _ => Ex.skip ?_)
        refine Ex.seq loop ?_
        refine Ex.seq (Ex.setfld (C := T.c_Network) (a := a) (fs := []) rfl (by walk_at "ze") rfl (by decide) T.cl_Network T.na_Network__size) ?_
        refine Ex.is (Ex.setfld (C := T.c_Network) (a := a) (fs := [("_size", dI n)]) rfl (EvN.ev (en_lc0 (xs := es) (en := eE) (f := eE) (ei_listT (es_b rfl)) ⟨rfl, rfl, rfl, trivial⟩ (by omega) fun e he => ⟨[4, 5, 6], _, eg_tup (egs_cons eg_name (egs_cons eg_name (egs_cons eg_name egs_nil))) rfl, fun i hi => hi, .k (.k (.k (.k (.x (.x (.x .nil)))))), Ev.is (by walk_at "ze") (by rfl)⟩)) (by rfl) (by show 1 < 1000; decide) T.cl_Network T.na_Network__edges) (by rfl)
      · rw [r1] at loop
        refine .inr ⟨_, _, ρ, netI_err T (e0.trans ((if_neg c2).trans r2)), ?_⟩
        refine Ex.ite (b := !(isSize n)) (EvT.is (by walk_at "zt") (by rfl)) (fun z => by rw [c1] at z; cases z) (fun _ => Ex.skip ?_)
        refine Ex.ite (b := decide ((200 : Int) < (es.map eE).length)) (by walk_at "zt") (fun z => absurd (by rw [← hl]; exact of_decide_eq_true z) c2) (fun _ => Ex.skip ?_)
        exact Ex.seqE loop rfl

theorem ok_Network_size (T : Tx K mg) : FnOk P w K mg base (L2.CX P w) 1 T.f_Network_size T.fd_Network_size ["self"] (sp_Network_size T) := by
  refine T.F_Network_size.okX sc_Network_size (SpA.len fun _ => rfl) (fun cdv A outer s H vs Q E hr h => ⟨_, (pss_one (ps_ret (kpe_fld K (pv 0) rfl))), ?_⟩)
  refine SpA.go h N_Network_size 1 (fun _ => rfl) ?_
  rintro ⟨n, es⟩ -
  exact ⟨_, [], rfl, Ex.is (Ex.ret (by walk_at "ze")) (by rfl)⟩

theorem ok_Network_edges (T : Tx K mg) : FnOk P w K mg base (L2.CX P w) 1 T.f_Network_edges T.fd_Network_edges ["self"] (sp_Network_edges T) := by
  refine T.F_Network_edges.okX sc_Network_edges (SpA.len fun _ => rfl) (fun cdv A outer s H vs Q E hr h => ⟨_, (pss_one (ps_ret (pe_callTy (kcall_list K) (by rfl) T.z_list (by decide +kernel) (pa_cons (kpe_fld K (pv 0) rfl) pa_nil)))), ?_⟩)
  refine SpA.go h N_Network_edges 1 (fun _ => rfl) ?_
  rintro ⟨n, es⟩ -
  exact ⟨.own (oL (es.map eE)), [], rfl, Ex.is (Ex.retO (by walk_at "zn")) (by rfl)⟩

theorem ok_law_mix (T : Tx K mg) : FnOk P w K mg base (L2.CX P w) 1 T.f_law_mix T.fd_law_mix ["draws", "k", "many"] (sp_law_mix T) := by
  refine T.F_law_mix.okX sc_law_mix (SpA.len fun _ => rfl) (fun cdv A outer s H vs Q E hr h => ⟨_, (pss_cons (ps_set (i := 3) sc_law_mix.nd rfl (by first | exact Or.inl rfl | exact Or.inr rfl) pe_int)
      (pss_cons (ps_if (pt_cmpR op_gt (pe_callB (kcall_len K) (by rfl) T.z_len PySem.boot_len (pa_cons (pv 0) pa_nil)) pe_int (nomark _))
        (pss_one (ps_set (i := 3) sc_law_mix.nd rfl (by first | exact Or.inl rfl | exact Or.inr rfl) (pe_ix (kix_list K) (pv 0) (pe_op op_mod (pe_callTy call_int1 (by rfl) T.z_int (by decide +kernel) (pa_cons (pv 1) pa_nil)) (pe_callB (kcall_len K) (by rfl) T.z_len PySem.boot_len (pa_cons (pv 0) pa_nil))) (fun _ _ => rfl))))
        pss_nil)
      (pss_cons (ps_if (pt_cmpR op_lt (pv 1) (pe_callB (kcall_len K) (by rfl) T.z_len PySem.boot_len (pa_cons (pv 0) pa_nil)) (nomark _))
        (pss_one (ps_ret (pe_op op_mod (pe_callTy call_int1 (by rfl) T.z_int (by decide +kernel) (pa_cons (pv 3) pa_nil)) (pv 2))))
        pss_nil)
      (pss_one (ps_ret (pe_op op_mod (pe_callTy call_int1 (by rfl) T.z_int (by decide +kernel) (pa_cons (pe_op op_fdiv (pe_callTy call_int1 (by rfl) T.z_int (by decide +kernel) (pa_cons (pe_op op_add (pe_op op_mul (pv 3) pe_int) (pe_op op_mul (pv 1) pe_int)) pa_nil)) pe_int) pa_nil)) (pv 2))))))), ?_⟩)
  refine SpA.go h N_law_mix 3 (fun _ => rfl) ?_
  rintro ⟨ds, k, many⟩ hm
  have hm : 0 < many := hm
  refine ⟨_, [], rfl, ?_⟩
  show Ex _ _ [.b (bL (ds.map .int)), .b (pu (dI k)), .b (pu (dI many)), .x] _
  refine Ex.seq (Ex.set (i := 3) ev_int) ?_
  refine Ex.seq (ρ1 := [.b (bL (ds.map .int)), .b (pu (dI k)), .b (pu (dI many)), .p (dI (mixV ds k))]) (Ex.ife (b := decide ((0 : Int) < (ds.map PyData.int).length)) (by walk_at "zt") (fun c => ?_) (fun c => ?_)) ?_
  · have c : (0 : Int) < ds.length := by simpa using c
    have l : 0 < (((ds.map PyData.int).length : Nat) : Int) := by rw [List.length_map]; exact c
    have e : atI (ds.map PyData.int) (k % (ds.map PyData.int).length) = some (.int (mixV ds k)) := by
      rw [atI_ints (Int.emod_nonneg _ (by omega)) (by rw [← List.length_map (f := PyData.int)]; exact Int.emod_lt_of_pos _ l), List.length_map]
      unfold mixV
      rw [if_pos c]
    exact Ex.is (Ex.set (i := 3) (by walk_at "ze")) rfl
  · have c : ¬ (0 : Int) < ds.length := by simpa using c
    have e : mixV ds k = 0 := if_neg c
    rw [e]
    exact Ex.next
  refine Ex.ite (b := decide (k < (ds.map PyData.int).length)) (by walk_at "zt") (fun c => ?_) (fun c => ?_)
  · have c : k < ds.length := by simpa using c
    refine Ex.seqE (Ex.is (Ex.ret (by walk_at "ze")) ?_) rfl
    show Out.rt _ = Out.rt _
    rw [show mix ds k many = mixV ds k % many from if_pos c]
  · have c : ¬ k < ds.length := by simpa using c
    refine Ex.skip (Ex.is (Ex.ret (by walk_at "ze")) ?_)
    show Out.rt _ = Out.rt _
    rw [show mix ds k many = ((mixV ds k * 7919 + k * 104729) / 3) % many from if_neg c]

theorem ok_law_draws (T : Tx K mg) : FnOk P w K mg base (L2.CX P w) 1 T.f_law_draws T.fd_law_draws ["script"] (sp_law_draws T) := by
  refine T.F_law_draws.okX sc_law_draws (SpA.len fun _ => rfl) (fun cdv A outer s H vs Q E hr h => ⟨_, (pss_cons (ps_set (i := 1) sc_law_draws.nd rfl (by first | exact Or.inl rfl | exact Or.inr rfl) (pe_lst pa_nil))
      (pss_cons (ps_for (passes_of rfl) rfl (pi_range1 (by rfl) T.z_range (pa_cons (pe_callB (call_min2 rfl) (by rfl) T.z_min (by decide +kernel) (pa_cons pe_int (pa_cons (pe_callB (kcall_len K) (by rfl) T.z_len PySem.boot_len (pa_cons (pv 0) pa_nil)) pa_nil))) pa_nil)) (pg_name (i := 2) sc_law_draws.nd rfl (by first | exact Or.inl rfl | exact Or.inr rfl))
        (pss_cons (ps_set (i := 3) sc_law_draws.nd rfl (by first | exact Or.inl rfl | exact Or.inr rfl) (pe_callB call_abs (by rfl) T.z_abs (by decide +kernel) (pa_cons (pe_ix (kix_list K) (pv 0) (pv 2) (fun _ _ => rfl)) pa_nil)))
      (pss_one (ps_if (pt_cmpR op_ge (pv 3) (pe_op op_pow pe_int pe_int) (nomark _))
        (pss_one (ps_for (passes_of rfl) rfl (pi_range1 (by rfl) T.z_range (pa_cons pe_int pa_nil)) (pg_name (i := 4) sc_law_draws.nd rfl (by first | exact Or.inl rfl | exact Or.inr rfl))
        (pss_one (ps_if (pt_cmpR op_gt (pv 3) pe_int (nomark _))
        (pss_cons (ps_expr (pe_bm PySem.F.plainAttrs_list PySem.F.slot_list_append PySem.F.type_list_append mt_append (pv 1) (pa_cons (pe_op op_mod (pe_callTy call_int1 (by rfl) T.z_int (by decide +kernel) (pa_cons (pv 3) pa_nil)) pe_int) pa_nil)))
      (pss_one (ps_set (i := 3) sc_law_draws.nd rfl (by first | exact Or.inl rfl | exact Or.inr rfl) (pe_op op_fdiv (pv 3) pe_int))))
        pss_nil))))
        (pss_cons (ps_set (i := 5) sc_law_draws.nd rfl (by first | exact Or.inl rfl | exact Or.inr rfl) (pe_op op_mod (pe_callTy call_int1 (by rfl) T.z_int (by decide +kernel) (pa_cons (pe_op op_add (pe_op op_mul (pv 3) pe_int) (pe_op op_mul (pe_op op_add (pv 2) pe_int) pe_int)) pa_nil)) pe_int))
      (pss_cons (ps_set (i := 5) sc_law_draws.nd rfl (by first | exact Or.inl rfl | exact Or.inr rfl) (pe_op op_mod (pe_callTy call_int1 (by rfl) T.z_int (by decide +kernel) (pa_cons (pe_op op_add (pe_op op_add (pe_op op_mul (pv 5) pe_int) (pe_op op_mul pe_int (pv 2))) pe_int) pa_nil)) pe_int))
      (pss_cons (ps_expr (pe_bm PySem.F.plainAttrs_list PySem.F.slot_list_append PySem.F.type_list_append mt_append (pv 1) (pa_cons (pe_op op_mod (pe_callTy call_int1 (by rfl) T.z_int (by decide +kernel) (pa_cons (pv 5) pa_nil)) pe_int) pa_nil)))
      (pss_one (ps_expr (pe_bm PySem.F.plainAttrs_list PySem.F.slot_list_append PySem.F.type_list_append mt_append (pv 1) (pa_cons (pe_op op_mod (pe_callTy call_int1 (by rfl) T.z_int (by decide +kernel) (pa_cons (pe_op op_fdiv (pv 5) pe_int) pa_nil)) pe_int) pa_nil)))))))))))
      (pss_one (ps_ret (pv 1))))), ?_⟩)
  refine SpA.go h N_law_draws 1 (fun _ => rfl) ?_
  intro xs hl
  have hl : xs.length ≤ 63 := hl
  refine ⟨.own (oL ((drawsL xs).map .int)), [.b (pu (scR K xs)), .o (oL ((drawsL xs).map .int)), .x, .x, .x, .x], rfl, ?_⟩
  refine Ex.seq (Ex.setN (i := 1) (ds := []) (by walk_at "zn") (by show 1 < 6; decide)) ?_
  have hi : EvI K (iRng1 (tCons (tCB cMin2 (tCons (tC (.int 63)) (tCons (tCB (cLen K) (tCons (tVar 0) tNil)) tNil))) tNil)) [.b (pu (scR K xs)), .o (oL []), .x, .x, .x, .x] ((List.range (min 63 xs.length)).map fun (k : Nat) => .int (k : Int)) := by
    have e : ((if ((xs.length : Nat) : Int) < 63 then ((xs.length : Nat) : Int) else 63)).toNat = min 63 xs.length := by split <;> omega
    rw [← e]
    exact ei_rangeT (by walk_at "za") (by split <;> omega) (by split <;> omega)
  refine Ex.seq (Ex.for_ (K := K) (xs := List.range (min 63 xs.length)) (en := fun (k : Nat) => .int (k : Int)) (fun pre => [.b (pu (scR K xs)), .o (oL ((pre.foldl (drawOne xs) []).map .int)), .x, .x, .x, .x]) hi (Wk.refl _) ?_) ?_
  · intro pre k post e
    have hk : k < min 63 xs.length := List.mem_range.mp (by rw [e]; simp)
    have hp : pre.length ≤ 63 := by
      have := congrArg List.length e
      simp at this
      omega
    obtain ⟨x, hx⟩ : ∃ x, x = xs.getD k 0 := ⟨_, rfl⟩
    have hxk : xs[((k : Nat) : Int).toNat]? = some x := by rw [hx, List.getD_eq_getElem?_getD, Int.toNat_natCast, List.getElem?_eq_getElem (by omega)]; rfl
    obtain ⟨ds, hds⟩ : ∃ ds, ds = pre.foldl (drawOne xs) [] := ⟨_, rfl⟩
    have hlen : ds.length ≤ 3780 := by
      rw [hds]
      have := draws_len xs pre []
      simp at this
      omega
    have hE : (pre ++ [k]).foldl (drawOne xs) [] = drawOne xs ds k := by rw [List.foldl_append, hds]; rfl
    show ∃ T ρ1, EvG _ T [.b (pu (scR K xs)), .o (oL ((pre.foldl (drawOne xs) []).map .int)), .x, .x, .x, .x] _ ρ1 ∧ Ex _ _ ρ1 (.go [.b (pu (scR K xs)), .o (oL (((pre ++ [k]).foldl (drawOne xs) []).map .int)), .x, .x, .x, .x])
    rw [hE, ← hds]
    refine ⟨[2], _, eg_name, ?_⟩
    refine Ex.seq (Ex.set (i := 3) (R := dI (absI x)) (Ev.is (by walk_at "ze") (by rfl))) ?_
    refine Ex.ife (b := decide ((10 : Int) ^ 18 ≤ absI x)) (EvT.is (by walk_at "zt") (by rfl)) (fun c => ?_) (fun c => ?_)
    · have c : (10 : Int) ^ 18 ≤ absI x := of_decide_eq_true c
      have hE2 : drawOne xs ds k = ((List.range 60).foldl (fun s _ => dig s) (absI x, ds)).2 := by unfold drawOne; rw [← hx, if_pos c]
      rw [hE2]
      refine Ex.go (Ex.out (.k (.k (.x (.x (.x (.x .nil)))))) (Ex.for_ (K := K) (xs := List.range 60) (en := fun (k : Nat) => .int (k : Int)) (fun p2 => [.b (pu (scR K xs)), .o (oL ((p2.foldl (fun s _ => dig s) (absI x, ds)).2.map .int)), .p (dI (k : Int)), .p (dI (p2.foldl (fun s _ => dig s) (absI x, ds)).1), .x, .x]) (ei_rangeT (n := 60) (by walk_at "za") (by decide) (by decide)) (Wk.refl _) ?_))
      intro p2 j post2 e2
      have hp2 : p2.length ≤ 60 := by
        have := congrArg List.length e2
        simp at this
        omega
      obtain ⟨⟨r, l⟩, hs⟩ : ∃ s, s = p2.foldl (fun s _ => dig s) (absI x, ds) := ⟨_, rfl⟩
      have hl2 : l.length ≤ 3840 := by
        have := digs_len p2 (absI x, ds)
        rw [← hs] at this
        have : l.length ≤ ds.length + p2.length := this
        omega
      have hE3 : (p2 ++ [j]).foldl (fun s _ => dig s) (absI x, ds) = dig (r, l) := by rw [List.foldl_append, ← hs]; rfl
      show ∃ T ρ1, EvG _ T [.b (pu (scR K xs)), .o (oL ((p2.foldl (fun s _ => dig s) (absI x, ds)).2.map .int)), .p (dI (k : Int)), .p (dI (p2.foldl (fun s _ => dig s) (absI x, ds)).1), .x, .x] _ ρ1 ∧ Ex _ _ ρ1 (.go [.b (pu (scR K xs)), .o (oL (((p2 ++ [j]).foldl (fun s _ => dig s) (absI x, ds)).2.map .int)), .p (dI (k : Int)), .p (dI ((p2 ++ [j]).foldl (fun s _ => dig s) (absI x, ds)).1), .x, .x])
      rw [hE3, ← hs]
      refine ⟨[4], _, eg_name, ?_⟩
      refine Ex.ife (b := decide (0 < r)) (EvT.is (by walk_at "zt") (by rfl)) (fun c2 => ?_) (fun c2 => ?_)
      · rw [show dig (r, l) = (r / 65536, l ++ [r % 65536]) from if_pos (of_decide_eq_true c2)]
        refine Ex.go (Ex.out (ρ' := [.b (pu (scR K xs)), .o (oL ((l ++ [r % 65536]).map .int)), .p (dI (k : Int)), .p (dI (r / 65536)), .p (dI (j : Int)), .x]) (.k (.k (.k (.k (.x (.x .nil)))))) ?_)
        refine Ex.seq (Ex.append (i := 1) (ds := l.map .int) (d := .int (r % 65536)) rfl (by walk_at "ze") (by rw [List.length_map]; omega) rfl) ?_
        exact Ex.is (Ex.set (i := 3) (R := dI (r / 65536)) (by walk_at "ze")) (by rw [List.map_append]; rfl)
      · rw [show dig (r, l) = (r, l) from if_neg (of_decide_eq_false c2)]
        exact Ex.go (Ex.out (.k (.k (.k (.k (.x (.x .nil)))))) Ex.next)
    · have c : ¬ (10 : Int) ^ 18 ≤ absI x := of_decide_eq_false c
      have hE2 : drawOne xs ds k = (ds ++ [mixA (absI x) k % 65536]) ++ [mixA (absI x) k / 65536 % 32768] := by unfold drawOne; rw [← hx, if_neg c]
      rw [hE2]
      refine Ex.seq (Ex.set (i := 5) (by walk_at "ze")) ?_
      refine Ex.seq (Ex.set (i := 5) (R := dI (mixA (absI x) k)) (Ev.is (by walk_at "ze") (by rfl))) ?_
      refine Ex.go (Ex.out (ρ' := [.b (pu (scR K xs)), .o (oL (((ds ++ [mixA (absI x) k % 65536]) ++ [mixA (absI x) k / 65536 % 32768]).map .int)), .p (dI (k : Int)), .p (dI (absI x)), .x, .p (dI (mixA (absI x) k))]) (.k (.k (.x (.x (.x (.x .nil)))))) ?_)
      refine Ex.seq (Ex.append (i := 1) (ds := ds.map .int) (d := .int (mixA (absI x) k % 65536)) rfl (by walk_at "ze") (by rw [List.length_map]; omega) rfl) ?_
      exact Ex.is (Ex.append (i := 1) (ds := ds.map .int ++ [.int (mixA (absI x) k % 65536)]) (d := .int (mixA (absI x) k / 65536 % 32768)) rfl (by walk_at "ze") (by rw [List.length_append, List.length_map]; show ds.length + 1 < _; omega) rfl) (by rw [List.map_append, List.map_append]; rfl)
  · exact Ex.is (Ex.retOv rfl) (by rfl)

theorem ok_law_network (T : Tx K mg) : FnOk P w K mg base (L2.CX P w) 2 T.f_law_network T.fd_law_network ["draws", "k", "sizes", "many", "top"] (sp_law_network T) := by
  refine T.F_law_network.okX sc_law_network (SpA.len fun _ => rfl) (fun cdv A outer s H vs Q E hr h => ⟨_, (pss_cons (ps_set (i := 5) sc_law_network.nd rfl (by first | exact Or.inl rfl | exact Or.inr rfl) (pe_op op_add pe_int (pe_call (ok_law_mix T) (hr.mono (by decide)) (by rfl) T.g_law_mix T.F_law_mix.kp T.b_law_mix .nil (passes_call (takes_of rfl rfl rfl rfl) fun _ _ _ _ z => z) (pa_cons (pv 0) (pa_cons (pv 1) (pa_cons (pv 2) pa_nil))))))
      (pss_cons (ps_set (i := 6) sc_law_network.nd rfl (by first | exact Or.inl rfl | exact Or.inr rfl) (pe_lst pa_nil))
      (pss_cons (ps_if (pt_cmpR op_gt (pv 5) pe_int (nomark _))
        (pss_one (ps_for (passes_of rfl) rfl (pi_range1 (by rfl) T.z_range (pa_cons (pe_call (ok_law_mix T) (hr.mono (by decide)) (by rfl) T.g_law_mix T.F_law_mix.kp T.b_law_mix .nil (passes_call (takes_of rfl rfl rfl rfl) fun _ _ _ _ z => z) (pa_cons (pv 0) (pa_cons (pe_op op_add (pv 1) pe_int) (pa_cons (pe_op op_add (pv 3) pe_int) pa_nil)))) pa_nil)) (pg_name (i := 7) sc_law_network.nd rfl (by first | exact Or.inl rfl | exact Or.inr rfl))
        (pss_cons (ps_set (i := 8) sc_law_network.nd rfl (by first | exact Or.inl rfl | exact Or.inr rfl) (pe_call (ok_law_mix T) (hr.mono (by decide)) (by rfl) T.g_law_mix T.F_law_mix.kp T.b_law_mix .nil (passes_call (takes_of rfl rfl rfl rfl) fun _ _ _ _ z => z) (pa_cons (pv 0) (pa_cons (pe_op op_add (pe_op op_add (pv 1) pe_int) (pe_op op_mul pe_int (pv 7))) (pa_cons (pv 5) pa_nil)))))
      (pss_cons (ps_set (i := 9) sc_law_network.nd rfl (by first | exact Or.inl rfl | exact Or.inr rfl) (pe_op op_mod (pe_callTy call_int1 (by rfl) T.z_int (by decide +kernel) (pa_cons (pe_op op_add (pe_op op_add (pv 8) pe_int) (pe_call (ok_law_mix T) (hr.mono (by decide)) (by rfl) T.g_law_mix T.F_law_mix.kp T.b_law_mix .nil (passes_call (takes_of rfl rfl rfl rfl) fun _ _ _ _ z => z) (pa_cons (pv 0) (pa_cons (pe_op op_add (pe_op op_add (pv 1) pe_int) (pe_op op_mul pe_int (pv 7))) (pa_cons (pe_op op_sub (pv 5) pe_int) pa_nil))))) pa_nil)) (pv 5)))
      (pss_one (ps_expr (pe_bm PySem.F.plainAttrs_list PySem.F.slot_list_append PySem.F.type_list_append mt_append (pv 6) (pa_cons (pe_tup (pa_cons (pv 8) (pa_cons (pv 9) (pa_cons (pe_call (ok_law_mix T) (hr.mono (by decide)) (by rfl) T.g_law_mix T.F_law_mix.kp T.b_law_mix .nil (passes_call (takes_of rfl rfl rfl rfl) fun _ _ _ _ z => z) (pa_cons (pv 0) (pa_cons (pe_op op_add (pe_op op_add (pv 1) pe_int) (pe_op op_mul pe_int (pv 7))) (pa_cons (pv 4) pa_nil)))) pa_nil)))) pa_nil))))))))
        pss_nil)
      (pss_one (ps_ret (pe_tup (pa_cons (pv 5) (pa_cons (pv 6) pa_nil)))))))), ?_⟩)
  refine SpA.go h N_law_network 5 (fun _ => rfl) ?_
  rintro ⟨ds, k, sizes, many, top⟩ ⟨h1, h2, h3, h4⟩
  have h1 : 0 < sizes := h1
  have h2 : 0 ≤ many := h2
  have h3 : many ≤ 1000 := h3
  have h4 : 0 < top := h4
  obtain ⟨n, hn⟩ : ∃ n, n = sizeN ds k sizes := ⟨_, rfl⟩
  have hn1 : 1 ≤ n := by
    rw [hn]
    unfold sizeN
    have := mix_bd (ds := ds) (k := k) h1
    omega
  have m2 := mix_bd (ds := ds) (k := k + 1) (many := many + 1) (by omega)
  refine ⟨.own (oPair n ((edgesN ds k n many top).map eE)), [.b (bL (ds.map .int)), .b (pu (dI k)), .b (pu (dI sizes)), .b (pu (dI many)), .b (pu (dI top)), .p (dI n), .o (oL ((edgesN ds k n many top).map eE)), .x, .x, .x], by rw [hn], ?_⟩
  refine Ex.seq (Ex.set (i := 5) (R := dI n) (Ev.is (by walk_at "ze") (by rw [hn]; rfl))) ?_
  refine Ex.seq (Ex.setN (i := 6) (ds := []) (by walk_at "zn") (by show 6 < 10; decide)) ?_
  refine Ex.seq (ρ1 := [.b (bL (ds.map .int)), .b (pu (dI k)), .b (pu (dI sizes)), .b (pu (dI many)), .b (pu (dI top)), .p (dI n), .o (oL ((edgesN ds k n many top).map eE)), .x, .x, .x]) (Ex.ife (b := decide (1 < n)) (EvT.is (by walk_at "zt") (by rfl)) (fun c => ?_) (fun c => ?_)) ?_
  · have c : 1 < n := of_decide_eq_true c
    have he : edgesN ds k n many top = (List.range (mix ds (k + 1) (many + 1)).toNat).map (edgeN ds k n top) := if_pos c
    rw [he]
    refine Ex.for_ (K := K) (xs := List.range (mix ds (k + 1) (many + 1)).toNat) (en := fun (k : Nat) => .int (k : Int)) (fun pre => [.b (bL (ds.map .int)), .b (pu (dI k)), .b (pu (dI sizes)), .b (pu (dI many)), .b (pu (dI top)), .p (dI n), .o (oL ((pre.map (edgeN ds k n top)).map eE)), .x, .x, .x]) (ei_rangeT (by walk_at "za") (by omega) (by omega)) (Wk.refl _) ?_
    intro pre j post e
    have hp : pre.length ≤ 1001 := by
      have := congrArg List.length e
      simp at this
      omega
    refine ⟨[7], _, eg_name, ?_⟩
    refine Ex.seq (Ex.set (i := 8) (R := dI (edgeN ds k n top j).1) (Ev.is (by walk_at "ze") (by rfl))) ?_
    refine Ex.seq (Ex.set (i := 9) (R := dI (edgeN ds k n top j).2.1) (Ev.is (by walk_at "ze") (by rfl))) ?_
    refine Ex.go (Ex.out (ρ' := [.b (bL (ds.map .int)), .b (pu (dI k)), .b (pu (dI sizes)), .b (pu (dI many)), .b (pu (dI top)), .p (dI n), .o (oL (((pre ++ [j]).map (edgeN ds k n top)).map eE)), .p (dI (j : Int)), .p (dI (edgeN ds k n top j).1), .p (dI (edgeN ds k n top j).2.1)]) (.k (.k (.k (.k (.k (.k (.k (.x (.x (.x .nil)))))))))) ?_)
    exact Ex.is (Ex.append (i := 6) (ds := (pre.map (edgeN ds k n top)).map eE) (d := eE (edgeN ds k n top j)) rfl (Ev.is (by walk_at "ze") (by rfl)) (by rw [List.length_map, List.length_map]; omega) rfl) (by rw [List.map_append, List.map_append]; rfl)
  · rw [show edgesN ds k n many top = [] from if_neg (of_decide_eq_false c)]
    exact Ex.next
  · exact Ex.retPair rfl rfl

end
end Q

set_option Elab.async false
set_option linter.all false
set_option maxRecDepth 100000
set_option maxHeartbeats 4000000
namespace Q
open PySem PySem.Spec PyProof.Rows L2 Z QT TL
local macro_rules | `(tactic| walk_at "zo") => `(tactic| first
  | with_reducible exact o_int0 | with_reducible exact o_bool0 | exact o_eqI | exact o_neI
  | exact o_intC (by assumption) | exact o_intC (by show (0 : Int) < _; omega) | exact o_intC ⟨by omega, by omega⟩ | exact o_intC (Or.inr ⟨by omega, by omega⟩) | exact o_intC (Or.inl ⟨by omega, by omega⟩) | exact o_intC ⟨by decide, by decide, by decide⟩
  | exact o_ixL (by assumption) | exact Op2.l (o_ixL (by assumption)) | exact o_ixT rfl | exact o_inT2 | exact o_inT | exact o_inL | exact Op2.r o_inL | exact o_notInL | exact Op2.r o_notInL | exact o_isN | exact o_notN)
local macro_rules | `(tactic| walk_at "zc") => `(tactic| first
  | exact cl_len | exact cl_lenP | exact cl_int | exact cl_abs | exact cl_min2 | exact cl_max2 | exact cl_intB | exact cl_sum | exact cl_any | exact cl_all)
local macro_rules | `(tactic| walk_at "za") => `(tactic| first
  | with_reducible exact ea_nil | with_reducible exact ed_nil
  | ((with_reducible refine' ed_cons ?z1 ?z2); (case z1 => walk_at "ze"); (case z2 => walk_at "za"))
  | ((with_reducible refine' ea_cons ?z1 ?z2); (case z1 => walk_at "ze"); (case z2 => walk_at "za")))
local macro_rules | `(tactic| walk_at "ze") => `(tactic| first
  | with_reducible assumption
  | with_reducible exact ev_int | with_reducible exact ev_bl | with_reducible exact ev_non | with_reducible exact ev_str
  | ((with_reducible refine' ev_b ?z1); (case z1 => rfl)) | ((with_reducible refine' ev_var ?z1); (case z1 => rfl)) | ((with_reducible refine' ev_o ?z1); (case z1 => rfl))
  | ((with_reducible refine' ev_op ?z1 ?z2 ?z3); (case z1 => walk_at "ze"); (case z2 => walk_at "ze"); (case z3 => walk_at "zo"))
  | ((with_reducible refine' ev_chain ?z1 ?z2 ?z3 ?z4 ?z5); (case z1 => walk_at "ze"); (case z2 => walk_at "ze"); (case z4 => walk_at "zo"); (case z3 => intro _; walk_at "ze"); (case z5 => intro _; walk_at "zo"))
  | ((with_reducible refine' ev_andV ?z1 ?z2); (case z1 => walk_at "ze"); (case z2 => intro _; walk_at "ze"))
  | ((with_reducible refine' ev_orV ?z1 ?z2); (case z1 => walk_at "ze"); (case z2 => intro _; walk_at "ze"))
  | ((with_reducible refine' ev_notV ?z1); (case z1 => walk_at "ze"))
  | ((with_reducible refine' ev_neg ?z1); (case z1 => walk_at "ze"))
  | ((with_reducible refine' ev_tupD ?z1 ?z2); (case z1 => walk_at "za"); (case z2 => exact Nat.le_of_ble_eq_true rfl))
  | ((with_reducible refine' ev_cb ?z1 ?z2); (case z1 => walk_at "za"); (case z2 => walk_at "zc"))
  | ((with_reducible refine' EvN.ev ?z1); (case z1 => walk_at "zn"))
  | walk_at "zf")
local macro_rules | `(tactic| walk_at "zb") => `(tactic| first
  | with_reducible assumption
  | ((with_reducible refine' ev_b ?z1); (case z1 => rfl)) | ((with_reducible refine' ev_o ?z1); (case z1 => rfl))
  | ((with_reducible refine' Ev.bl ?z1); (case z1 => walk_at "ze")))
local macro_rules | `(tactic| walk_at "zn") => `(tactic| first
  | with_reducible assumption
  | ((with_reducible refine' en_lstD ?z1 ?z2); (case z1 => walk_at "za"); (case z2 => exact Nat.le_of_ble_eq_true rfl))
  | ((with_reducible refine' en_cb ?z1 ?z2); (case z1 => walk_at "za"); (case z2 => first | exact cl_list | exact cl_listP)))
local macro_rules | `(tactic| walk_at "zt") => `(tactic| first
  | with_reducible assumption
  | ((with_reducible refine' et_test ?z1); (case z1 => walk_at "ze"))
  | ((with_reducible refine' et_B ?z1); (case z1 => walk_at "ze"))
  | ((with_reducible refine' et_and ?z1 ?z2); (case z1 => walk_at "zt"); (case z2 => intro _; walk_at "zt"))
  | ((with_reducible refine' et_or ?z1 ?z2); (case z1 => walk_at "zt"); (case z2 => intro _; walk_at "zt"))
  | ((with_reducible refine' et_not ?z1); (case z1 => walk_at "zt")))
local macro_rules | `(tactic| walk_at "zf") => `(tactic| first
  | ((with_reducible refine' c_is_size ?z1); (case z1 => walk_at "ze"))
  | ((with_reducible refine' c_is_price ?z1); (case z1 => walk_at "ze"))
  | ((with_reducible refine' c_are_ends ?z1 ?z2 ?z3); (case z1 => walk_at "ze"); (case z2 => walk_at "ze"); (case z3 => walk_at "ze"))
  | ((with_reducible refine' c_mix ?z0 ?z1 ?z2 ?z3); (case z1 => walk_at "zb"); (case z2 => walk_at "ze"); (case z3 => walk_at "ze"); (case z0 => first | assumption | omega | decide))
  | ((with_reducible refine' fld_size (by assumption) ?z1); (case z1 => walk_at "ze"))
  | ((with_reducible refine' fld_edges (by assumption) ?z1); (case z1 => walk_at "ze")))
local macro_rules | `(tactic| walk_at "zc") => `(tactic| exact cl_lenS)
local macro_rules | `(tactic| walk_at "zo") => `(tactic| exact o_ixS (by omega) (by assumption))
local macro_rules | `(tactic| walk_at "zf") => `(tactic| ((with_reducible refine' c_is_number ?z0 ?z1); (case z1 => walk_at "ze"); (case z0 => first | assumption | omega)))
local macro_rules | `(tactic| walk_at "ze") => `(tactic| ((with_reducible refine' ev_is0 ?z1); (case z1 => walk_at "ze")))
local macro_rules | `(tactic| walk_at "zc") => `(tactic| exact cl_lenStr (by show _ ≤ 16777216; omega))
local macro_rules | `(tactic| walk_at "zo") => `(tactic| first | exact o_eqS | exact o_neS)
section
variable {P : Program} {w : World} {K : PySem.W.Frag} {mg : Str → Option Value} {base : Heap}
theorem ok_write_network (T : Tx K mg) : FnOk P w K mg base (L2.CX P w) 2 T.f_write_network T.fd_write_network ["network"] (sp_write_network T) := by
  refine T.F_write_network.okX sc_write_network (SpA.len fun _ => rfl) (fun cdv A outer s H vs Q E hr h => ⟨_, (pss_cons (ps_set (i := 1) sc_write_network.nd rfl (by first | exact Or.inl rfl | exact Or.inr rfl) (pe_lst (pa_cons (pe_joined (PJ.cons pe_str (PJ.cons (pe_fmt (pe_meth0 (pv 0) T.cl_Network T.m_Network_size (ok_Network_size T) (hr.mono (by decide)) T.b_Network_size .nil (passes_call (takes_of rfl rfl rfl rfl) fun _ _ _ _ z => z))) (PJ.cons pe_str PJ.nil)))) pa_nil)))
      (pss_cons (ps_for (passes_of rfl) rfl (kpi_list K (pe_meth0 (pv 0) T.cl_Network T.m_Network_edges (ok_Network_edges T) (hr.mono (by decide)) T.b_Network_edges .nil (passes_call (takes_of rfl rfl rfl rfl) fun _ _ _ _ z => z))) (kpg_tup K (n := 3) rfl (pgs_cons (pg_name (i := 2) sc_write_network.nd rfl (by first | exact Or.inl rfl | exact Or.inr rfl)) (pgs_cons (pg_name (i := 3) sc_write_network.nd rfl (by first | exact Or.inl rfl | exact Or.inr rfl)) (pgs_cons (pg_name (i := 4) sc_write_network.nd rfl (by first | exact Or.inl rfl | exact Or.inr rfl)) pgs_nil))))
        (pss_one (ps_expr (pe_bm PySem.F.plainAttrs_list PySem.F.slot_list_append PySem.F.type_list_append mt_append (pv 1) (pa_cons (pe_joined (PJ.cons pe_str (PJ.cons (pe_fmt (pv 2)) (PJ.cons pe_str (PJ.cons (pe_fmt (pv 3)) (PJ.cons pe_str (PJ.cons (pe_fmt (pv 4)) (PJ.cons pe_str PJ.nil)))))))) pa_nil)))))
      (pss_one (ps_ret (kpe_join K pe_str (pv 1)))))), ?_⟩)
  refine SpA.go h N_write_network 1 (fun _ => rfl) ?_
  rintro ⟨n, es⟩ F
  have F : FineT n es := F
  have hsz := size_le F.size
  have hbd := fine_bd F
  have hl := F.len
  have hhs : (hS n).length ≤ 40 := hS_len ⟨by omega, by omega⟩
  refine ⟨.ok (dat (.str (netS n es))), [.b (pu (netR T n es)), .o (oL ((hS n :: es.map eS).map .str)), .x, .x, .x], rfl, ?_⟩
  refine Ex.seq (Ex.setN (i := 1) (ds := [.str (hS n)]) (EvN.is (en_lstD (ed_cons (ev_joined (.cons ev_str (.cons (ev_fmtI (m_size (ev_b rfl)) (small_log (by omega))) (.cons ev_str .nil))) ?_) ed_nil) (Nat.le_of_ble_eq_true rfl)) ?_) (by show 1 < 5; decide)) ?_
  · rw [str_nS n (by omega)]
    have := numL_le (n := n) (by omega) (by omega)
    have e : (nS n.toNat).length = (numL n.toNat).length := len_tl _
    show 8 + ((nS n.toNat).length + (1 + 0)) ≤ 16777216
    omega
  · rw [glu_head (by omega)]
  refine Ex.seq (Ex.for_ (K := K) (xs := es) (en := eE) (fun pre => [.b (pu (netR T n es)), .o (oL ((hS n :: pre.map eS).map .str)), .x, .x, .x]) (ei_list (Ev.s (EvN.ev (m_edges (ev_b rfl))))) (Wk.refl _) ?_) ?_
  · intro pre e post he
    have hem : e ∈ es := by rw [he]; simp
    have hp : pre.length ≤ 200 := by
      have := congrArg List.length he
      simp at this
      omega
    obtain ⟨b1, b2, b3⟩ := hbd e hem
    refine ⟨_, _, eg_tup (egs_cons eg_name (egs_cons eg_name (egs_cons eg_name egs_nil))) rfl, ?_⟩
    refine Ex.go (Ex.out (ρ' := [.b (pu (netR T n es)), .o (oL ((hS n :: (pre ++ [e]).map eS).map .str)), .p (dI e.1), .p (dI e.2.1), .p (dI e.2.2)]) (.k (.k (.x (.x (.x .nil))))) ?_)
    refine Ex.is (Ex.append (i := 1) (ds := (hS n :: pre.map eS).map .str) (d := .str (eS e)) rfl (Ev.is (ev_joined (.cons ev_str (.cons (ev_fmtI (ev_var rfl) (small_log (by omega))) (.cons ev_str (.cons (ev_fmtI (ev_var rfl) (small_log (by omega))) (.cons ev_str (.cons (ev_fmtI (ev_var rfl) (small_log (by omega))) (.cons ev_str .nil))))))) ?_) ?_) (by rw [List.length_map, List.length_cons, List.length_map]; omega) rfl) ?_
    · rw [str_nS e.1 b1.1, str_nS e.2.1 b2.1, str_nS e.2.2 b3.1]
      have a1 := numL_le b1.2 b1.1
      have a2 := numL_le b2.2 b2.1
      have a3 := numL_le b3.2 b3.1
      have e1 : (nS e.1.toNat).length = (numL e.1.toNat).length := len_tl _
      have e2 : (nS e.2.1.toNat).length = (numL e.2.1.toNat).length := len_tl _
      have e3 : (nS e.2.2.toNat).length = (numL e.2.2.toNat).length := len_tl _
      show 5 + ((nS e.1.toNat).length + (1 + ((nS e.2.1.toNat).length + (1 + ((nS e.2.2.toNat).length + (1 + 0)))))) ≤ 16777216
      omega
    · rw [glu_edge b1.1 b2.1 b3.1]
    · rw [List.map_append, List.map_cons (f := PyData.str), List.map_cons (f := PyData.str), List.map_append]
      rfl
  · refine Ex.is (Ex.ret (ev_join (ys := hS n :: es.map eS) ev_str (ev_o rfl) ?_)) ?_
    · have := sum_len (b := 40) (ys := hS n :: es.map eS) (fun y hy => by
        rcases List.mem_cons.mp hy with rfl | hy
        · exact hhs
        · obtain ⟨e, he, rfl⟩ := List.mem_map.mp hy
          exact eS_len (hbd e he).1 (hbd e he).2.1 (hbd e he).2.2)
      rw [List.length_cons, List.length_map] at this
      show _ + _ * 0 ≤ 16777216
      omega
    · show Out.rt _ = Out.rt _
      rw [join_net]

theorem ok_is_number (T : Tx K mg) : FnOk P w K mg base (L2.CX P w) 1 T.f_is_number T.fd_is_number ["word"] (sp_is_number T) := by
  refine T.F_is_number.okX sc_is_number (SpA.len fun _ => rfl) (fun cdv A outer s H vs Q E hr h => ⟨_, (pss_cons (ps_if (pt_not (PW.pt (pw_and (pt_val (pe_m0 PySem.F.slot_str_isascii PySem.F.type_str_isascii mt_isascii (pv 0))) (pw_and1 (pt_val (pe_m0 PySem.F.slot_str_isdigit PySem.F.type_str_isdigit mt_isdigit (pv 0)))))))
        (pss_one (ps_ret pe_bl))
        pss_nil)
      (pss_one (ps_ret (pe_and (pe_cmpR op_le (pe_callB call_len_str (by rfl) T.z_len PySem.boot_len (pa_cons (pv 0) pa_nil)) (pe_glob (v := .int 7) (by rfl) T.k_MOST_DIGITS ⟨_, rfl⟩) (nomark _)) (pe_one (pe_or (pe_cmpR op_eq (pv 0) pe_str (nomark _)) (pe_one (pe_cmpR op_ne (pe_ix ix_str (pv 0) pe_int (fun _ _ => rfl)) pe_str (nomark _))))))))), ?_⟩)
  refine SpA.go h N_is_number 1 (fun _ => rfl) ?_
  intro w hl
  have hl : w.length ≤ 1000000 := hl
  by_cases c : digits w = true
  case neg =>
    refine ⟨.ok (dB false), [.b (pu (dat (.str w)))], by show Res.ok (dB (numOk w)) = _; rw [numOk_no c], ?_⟩
    refine Ex.ite (b := !(Txt.isascii w && Txt.isdigit w)) (by walk_at "zt") (fun z => Ex.seqE (Ex.ret ev_bl) rfl) (fun z => ?_)
    rw [asc_dig] at z
    exact absurd (by simpa using z) c
  case pos =>
    obtain ⟨hd, hne⟩ := digits_all c
    obtain ⟨c0, r, e⟩ := List.exists_cons_of_ne_nil hne
    have h0 : atI w.cps.toList 0 = some c0 := by
      rw [show w.cps.toList = c0 :: r from e]
      unfold atI ixN
      rw [if_pos (by decide), if_pos (by rw [List.length_cons]; omega)]
      rfl
    refine ⟨.ok (dB (numOk w)), [.b (pu (dat (.str w)))], rfl, ?_⟩
    refine Ex.ite (b := !(Txt.isascii w && Txt.isdigit w)) (by walk_at "zt") (fun z => by rw [asc_dig, c] at z; cases z) (fun z => Ex.skip ?_)
    refine Ex.is (Ex.ret (ev_andV (by walk_at "ze") (fun _ => ev_orV (by walk_at "ze") (fun _ => ev_op (ev_op (ev_b rfl) ev_int (o_ixStr (by show _ ≤ 16777216; omega) h0)) ev_str o_neS)))) ?_
    show Out.rt _ = Out.rt _
    rw [← numOk_is c e]

end
end Q

set_option Elab.async false
set_option linter.all false
set_option maxRecDepth 100000
set_option maxHeartbeats 4000000
namespace Q
open PySem PySem.Spec PyProof.Rows L2 Z QT TL
local macro_rules | `(tactic| walk_at "zo") => `(tactic| first
  | with_reducible exact o_int0 | with_reducible exact o_bool0 | exact o_eqI | exact o_neI
  | exact o_intC (by assumption) | exact o_intC (by show (0 : Int) < _; omega) | exact o_intC ⟨by omega, by omega⟩ | exact o_intC (Or.inr ⟨by omega, by omega⟩) | exact o_intC (Or.inl ⟨by omega, by omega⟩) | exact o_intC ⟨by decide, by decide, by decide⟩
  | exact o_ixL (by assumption) | exact Op2.l (o_ixL (by assumption)) | exact o_ixT rfl | exact o_inT2 | exact o_inT | exact o_inL | exact Op2.r o_inL | exact o_notInL | exact Op2.r o_notInL | exact o_isN | exact o_notN)
local macro_rules | `(tactic| walk_at "zc") => `(tactic| first
  | exact cl_len | exact cl_lenP | exact cl_int | exact cl_abs | exact cl_min2 | exact cl_max2 | exact cl_intB | exact cl_sum | exact cl_any | exact cl_all)
local macro_rules | `(tactic| walk_at "za") => `(tactic| first
  | with_reducible exact ea_nil | with_reducible exact ed_nil
  | ((with_reducible refine' ed_cons ?z1 ?z2); (case z1 => walk_at "ze"); (case z2 => walk_at "za"))
  | ((with_reducible refine' ea_cons ?z1 ?z2); (case z1 => walk_at "ze"); (case z2 => walk_at "za")))
local macro_rules | `(tactic| walk_at "ze") => `(tactic| first
  | with_reducible assumption
  | with_reducible exact ev_int | with_reducible exact ev_bl | with_reducible exact ev_non | with_reducible exact ev_str
  | ((with_reducible refine' ev_b ?z1); (case z1 => rfl)) | ((with_reducible refine' ev_var ?z1); (case z1 => rfl)) | ((with_reducible refine' ev_o ?z1); (case z1 => rfl))
  | ((with_reducible refine' ev_op ?z1 ?z2 ?z3); (case z1 => walk_at "ze"); (case z2 => walk_at "ze"); (case z3 => walk_at "zo"))
  | ((with_reducible refine' ev_chain ?z1 ?z2 ?z3 ?z4 ?z5); (case z1 => walk_at "ze"); (case z2 => walk_at "ze"); (case z4 => walk_at "zo"); (case z3 => intro _; walk_at "ze"); (case z5 => intro _; walk_at "zo"))
  | ((with_reducible refine' ev_andV ?z1 ?z2); (case z1 => walk_at "ze"); (case z2 => intro _; walk_at "ze"))
  | ((with_reducible refine' ev_orV ?z1 ?z2); (case z1 => walk_at "ze"); (case z2 => intro _; walk_at "ze"))
  | ((with_reducible refine' ev_notV ?z1); (case z1 => walk_at "ze"))
  | ((with_reducible refine' ev_neg ?z1); (case z1 => walk_at "ze"))
  | ((with_reducible refine' ev_tupD ?z1 ?z2); (case z1 => walk_at "za"); (case z2 => exact Nat.le_of_ble_eq_true rfl))
  | ((with_reducible refine' ev_cb ?z1 ?z2); (case z1 => walk_at "za"); (case z2 => walk_at "zc"))
  | ((with_reducible refine' EvN.ev ?z1); (case z1 => walk_at "zn"))
  | walk_at "zf")
local macro_rules | `(tactic| walk_at "zb") => `(tactic| first
  | with_reducible assumption
  | ((with_reducible refine' ev_b ?z1); (case z1 => rfl)) | ((with_reducible refine' ev_o ?z1); (case z1 => rfl))
  | ((with_reducible refine' Ev.bl ?z1); (case z1 => walk_at "ze")))
local macro_rules | `(tactic| walk_at "zn") => `(tactic| first
  | with_reducible assumption
  | ((with_reducible refine' en_lstD ?z1 ?z2); (case z1 => walk_at "za"); (case z2 => exact Nat.le_of_ble_eq_true rfl))
  | ((with_reducible refine' en_cb ?z1 ?z2); (case z1 => walk_at "za"); (case z2 => first | exact cl_list | exact cl_listP)))
local macro_rules | `(tactic| walk_at "zt") => `(tactic| first
  | with_reducible assumption
  | ((with_reducible refine' et_test ?z1); (case z1 => walk_at "ze"))
  | ((with_reducible refine' et_B ?z1); (case z1 => walk_at "ze"))
  | ((with_reducible refine' et_and ?z1 ?z2); (case z1 => walk_at "zt"); (case z2 => intro _; walk_at "zt"))
  | ((with_reducible refine' et_or ?z1 ?z2); (case z1 => walk_at "zt"); (case z2 => intro _; walk_at "zt"))
  | ((with_reducible refine' et_not ?z1); (case z1 => walk_at "zt")))
local macro_rules | `(tactic| walk_at "zf") => `(tactic| first
  | ((with_reducible refine' c_is_size ?z1); (case z1 => walk_at "ze"))
  | ((with_reducible refine' c_is_price ?z1); (case z1 => walk_at "ze"))
  | ((with_reducible refine' c_are_ends ?z1 ?z2 ?z3); (case z1 => walk_at "ze"); (case z2 => walk_at "ze"); (case z3 => walk_at "ze"))
  | ((with_reducible refine' c_mix ?z0 ?z1 ?z2 ?z3); (case z1 => walk_at "zb"); (case z2 => walk_at "ze"); (case z3 => walk_at "ze"); (case z0 => first | assumption | omega | decide))
  | ((with_reducible refine' fld_size (by assumption) ?z1); (case z1 => walk_at "ze"))
  | ((with_reducible refine' fld_edges (by assumption) ?z1); (case z1 => walk_at "ze")))
local macro_rules | `(tactic| walk_at "zc") => `(tactic| exact cl_lenS)
local macro_rules | `(tactic| walk_at "zo") => `(tactic| exact o_ixS (by omega) (by assumption))
local macro_rules | `(tactic| walk_at "zf") => `(tactic| ((with_reducible refine' c_is_number ?z0 ?z1); (case z1 => walk_at "ze"); (case z0 => first | assumption | omega)))
local macro_rules | `(tactic| walk_at "ze") => `(tactic| ((with_reducible refine' ev_is0 ?z1); (case z1 => walk_at "ze")))
local macro_rules | `(tactic| walk_at "zc") => `(tactic| exact cl_lenStr (by show _ ≤ 16777216; omega))
local macro_rules | `(tactic| walk_at "zo") => `(tactic| first | exact o_eqS | exact o_neS)
section
variable {P : Program} {w : World} {K : PySem.W.Frag} {mg : Str → Option Value} {base : Heap}
theorem ok_read_line (T : Tx K mg) : FnOk P w K mg base (L2.CX P w) 3 T.f_read_line T.fd_read_line ["line", "at", "word", "many"] (sp_read_line T) := by
  refine T.F_read_line.okX sc_read_line (SpA.len fun _ => rfl) (fun cdv A outer s H vs Q E hr h => ⟨_, (pss_cons (ps_set (i := 4) sc_read_line.nd rfl (by first | exact Or.inl rfl | exact Or.inr rfl) (pe_split (pv 0) pe_str))
      (pss_cons (ps_if (PW.pt (pw_or (pt_cmpR op_ne (pe_ix (kix_list K) (pv 4) pe_int (fun _ _ => rfl)) (pv 2) (nomark _)) (pw_or1 (pt_cmpR op_ne (pe_callB (kcall_len K) (by rfl) T.z_len PySem.boot_len (pa_cons (pv 4) pa_nil)) (pe_op op_add (pv 3) pe_int) (nomark _)))))
        (pss_one (ps_raise rfl (takes_of rfl rfl rfl rfl) (pmk_oex T.x_BadLine.1 T.x_BadLine.2.2.1 T.x_BadLine.2.2.2.1 (ok_WebError___init__ T) (hr.mono (by decide)) T.b_WebError___init__ .nil pass_no (by rfl) T.x_BadLine.2.2.2.2 (pa_cons (pv 1) pa_nil))))
        pss_nil)
      (pss_cons (ps_for (passes_of rfl) rfl (kpi_list K (pe_slice (ksl_list K) (pv 4) (po_some pe_int) po_none)) (pg_name (i := 5) sc_read_line.nd rfl (by first | exact Or.inl rfl | exact Or.inr rfl))
        (pss_one (ps_if (pt_not (pt_val (pe_call (ok_is_number T) (hr.mono (by decide)) (by rfl) T.g_is_number T.F_is_number.kp T.b_is_number .nil (passes_call (takes_of rfl rfl rfl rfl) fun _ _ _ _ z => z) (pa_cons (pv 5) pa_nil))))
        (pss_one (ps_raise rfl (takes_of rfl rfl rfl rfl) (pmk_oex T.x_BadLine.1 T.x_BadLine.2.2.1 T.x_BadLine.2.2.2.1 (ok_WebError___init__ T) (hr.mono (by decide)) T.b_WebError___init__ .nil pass_no (by rfl) T.x_BadLine.2.2.2.2 (pa_cons (pv 1) pa_nil))))
        pss_nil)))
      (pss_one (ps_ret (pe_lc (own := [("digits", 5)]) (g := (gName 5)) rfl sc_read_line.nd (kpi_list K (pe_slice (ksl_list K) (pv 4) (po_some pe_int) po_none)) (blkOk_by (N := N_read_line) (sc := defScope s_read_line) (by decide +kernel)) (fun _ _ _ _ _ => (pg_name (i := 5) sc_read_line.nd rfl (by first | exact Or.inl rfl | exact Or.inr rfl))) (fun _ _ _ _ _ => pts_nil) (fun _ _ _ _ _ => (pe_callTy call_int_str (by rfl) T.z_int (by decide +kernel) (pa_cons (pv 5) pa_nil))))))))), ?_⟩)
  refine SpA.go h N_read_line 4 (fun _ => rfl) ?_
  rintro ⟨line, at_, wd, many⟩ ⟨hl, hm⟩
  have hl : line.length ≤ 1000000 := hl
  have hm : many ≤ 100 := hm
  have hne := split_ne line (s := 32) (by decide)
  have hwl : ∀ w ∈ Txt.split line (sepS 32), w.length ≤ 1000000 := fun w hw => Nat.le_trans (word_le (by decide) hw) hl
  have hrow : rowOf wd many line = if (Txt.split line (sepS 32))[0]? = some wd ∧ (Txt.split line (sepS 32)).length = many + 1 ∧ (Txt.split line (sepS 32)).tail.all numOk = true then some ((Txt.split line (sepS 32)).tail.map numV) else none := rfl
  obtain ⟨ws, hws⟩ : ∃ ws, ws = Txt.split line (sepS 32) := ⟨_, rfl⟩
  rw [← hws] at hne hwl hrow
  obtain ⟨w0, wt, rfl⟩ := List.exists_cons_of_ne_nil hne
  let ρ1 : List Sl := [.b (pu (dat (.str line))), .b (pu (dI at_)), .b (pu (dat (.str wd))), .b (pu (dI many)), .p (dat (.list ((w0 :: wt).map .str))), .x]
  have hl1 : ((((w0 :: wt).map PyData.str).length : Nat) : Int) = ((wt.length + 1 : Nat) : Int) := by rw [List.length_map, List.length_cons]
  have hi0 : atI ((w0 :: wt).map PyData.str) 0 = some (.str w0) := atI_map (en := PyData.str) (by decide) (by rfl)
  -- words
  have hsp : EvN (tM1 rSplit (tVar 0) (tC (.str (PySem.Str.ofString " ")))) [.b (pu (dat (.str line))), .b (pu (dI at_)), .b (pu (dat (.str wd))), .b (pu (dI many)), .x, .x] ((w0 :: wt).map .str) := EvN.is (en_split (ev_b rfl) ev_str (by decide) (by show _ ≤ 16777216; omega)) (by rw [sp_eq, hws])
  have htail : ∀ {ρ : List Sl}, ρ[4]? = some (.p (dat (.list ((w0 :: wt).map .str)))) → EvN (tSl (rSlL K) (tVar 4) (tPart (tC (.int 1))) tNoPart) ρ (wt.map .str) := fun hρ => EvN.is (en_sl (Ev.bl (ev_var hρ)) (eo_some ev_int) eo_none) (by rw [cut_tail (by rw [List.length_map, List.length_cons]; omega)]; rfl)
  have htest : EvT (tOr (tTest (tOp rNe (tOp (rIxL K) (tVar 4) (tC (.int 0))) (tVar 2))) (tTest (tOp rNe (tCB (cLen K) (tCons (tVar 4) tNil)) (tOp (rI0 fun i j => V.int (i + j)) (tVar 3) (tC (.int 1)))))) ρ1 (!decide (w0 = wd ∧ wt.length = many)) := by
    refine EvT.is (et_or (et_test (ev_op (ev_op (ev_var rfl) ev_int (Op2.l (o_ixL hi0))) (ev_b rfl) o_neS)) (fun _ => et_test (ev_op (ev_cb (ea_cons (ev_var rfl) ea_nil) cl_lenP) (ev_op (ev_b rfl) ev_int o_int0) o_neI))) ?_
    rw [hl1]
    have : decide (((wt.length + 1 : Nat) : Int) = (many : Int) + 1) = decide (wt.length = many) := by rw [Bool.eq_iff_iff]; simp; omega
    rw [this, Bool.decide_and]
    cases decide (w0 = wd) <;> cases decide (wt.length = many) <;> rfl
  by_cases c : w0 = wd ∧ wt.length = many
  case neg =>
    refine ⟨.err T.c_BadLine at_, ρ1, ?_, ?_⟩
    · show rowR T (rowOf wd many line) at_ = _
      rw [hrow, if_neg (fun z => c ⟨Option.some.inj z.1, by simpa using z.2.1⟩)]
      rfl
    · refine Ex.seq (Ex.setN (i := 4) hsp (by show 4 < 6; decide)) (Ex.freeze 4 rfl ?_)
      refine Ex.of (ρ' := ρ1) rfl ?_
      refine Ex.ite htest (fun _ => Ex.seqE (Ex.raise_ (by walk_at "za") T.x_BadLine.1 T.x_BadLine.2.1) rfl) (fun z => ?_)
      rw [decide_eq_false c] at z
      cases z
  case pos =>
    have loop := Ex.forF (K := K) (W := WofE E) (S := Unit) (ρ := ρ1) (wi := iList K (tSl (rSlL K) (tVar 4) (tPart (tC (.int 1))) tNoPart)) (xs := wt) (en := PyData.str) (T := []) (s0 := ()) (g := gName 5)
      (tb := tIfS (tNot (tB (tCall (sp_is_number T) [] E (tCons (tVar 5) tNil)))) (fun _ σ H => tMkO T.c_BadLine (spAt K) [] (tCons (tVar 1) tNil) σ H fun cls d H' => E cls d H') tNext)
      (fun _ => ρ1)
      (fun _ w => if numOk w = true then .inl () else .inr (.xc [.b (pu (dat (.str line))), .b (pu (dI at_)), .b (pu (dat (.str wd))), .b (pu (dI many)), .p (dat (.list ((w0 :: wt).map .str))), .p (dat (.str w))] T.c_BadLine at_))
      (ei_list (Ev.s (EvN.ev (htail rfl)))) (Wk.refl _) (fun pre w post s e r => ⟨fun o ho => (by
          split at ho
          · cases ho
          · cases ho; rfl), [5], _, eg_name, by
          have hw : w.length ≤ 1000000 := hwl w (List.mem_cons_of_mem _ (by rw [e]; simp))
          refine Ex.of (ρ' := [.b (pu (dat (.str line))), .b (pu (dI at_)), .b (pu (dat (.str wd))), .b (pu (dI many)), .p (dat (.list ((w0 :: wt).map .str))), .p (dat (.str w))]) rfl ?_
          by_cases hn : numOk w = true
          · rw [if_pos hn]
            exact Ex.ife (b := !(numOk w)) (by walk_at "zt") (fun z => by rw [hn] at z; cases z) (fun _ => Ex.go (Ex.out (.k (.k (.k (.k (.k (.x .nil)))))) Ex.next))
          · rw [if_neg hn]
            exact Ex.ife (b := !(numOk w)) (by walk_at "zt") (fun z => Ex.raise_ (by walk_at "za") T.x_BadLine.1 T.x_BadLine.2.1) (fun z => absurd (by simpa using z) hn)⟩)
    have run : ∀ vs : List Str, (runF (fun (_ : Unit) (w : Str) => (if numOk w = true then .inl () else .inr (.xc [.b (pu (dat (.str line))), .b (pu (dI at_)), .b (pu (dat (.str wd))), .b (pu (dI many)), .p (dat (.list ((w0 :: wt).map .str))), .p (dat (.str w))] T.c_BadLine at_) : Sum Unit Out)) () vs = .inl () ∧ vs.all numOk = true) ∨
        (∃ ρ, runF (fun (_ : Unit) (w : Str) => (if numOk w = true then .inl () else .inr (.xc [.b (pu (dat (.str line))), .b (pu (dI at_)), .b (pu (dat (.str wd))), .b (pu (dI many)), .p (dat (.list ((w0 :: wt).map .str))), .p (dat (.str w))] T.c_BadLine at_) : Sum Unit Out)) () vs = .inr (.xc ρ T.c_BadLine at_) ∧ vs.all numOk = false) := by
      intro vs
      induction vs with
      | nil => exact .inl ⟨rfl, rfl⟩
      | cons w vs ih =>
        unfold runF
        rw [List.all_cons]
        by_cases hn : numOk w = true
        · simp only [if_pos hn]
          rw [hn, Bool.true_and]
          exact ih
        · simp only [if_neg hn]
          exact .inr ⟨_, rfl, by rw [Bool.eq_false_iff.mpr hn]; rfl⟩
    rcases run wt with ⟨r1, r2⟩ | ⟨ρ2, r1, r2⟩
    · rw [r1] at loop
      refine ⟨.own (oL ((wt.map numV).map .int)), [], ?_, ?_⟩
      · show rowR T (rowOf wd many line) at_ = _
        rw [hrow, if_pos ⟨by rw [c.1]; rfl, by rw [List.length_cons, c.2], r2⟩]
        rfl
      · refine Ex.seq (Ex.setN (i := 4) hsp (by show 4 < 6; decide)) (Ex.freeze 4 rfl ?_)
        refine Ex.of (ρ' := ρ1) rfl ?_
        refine Ex.ite htest (fun z => by rw [decide_eq_true c] at z; cases z) (fun z => Ex.skip ?_)
        refine Ex.seq loop ?_
        refine Ex.is (Ex.retO (en_lc0 (K := K) (xs := wt) (en := PyData.str) (f := fun w => .int (numV w)) (ei_list (Ev.s (EvN.ev (htail rfl)))) ⟨rfl, trivial⟩ (by rw [c.2]; omega) fun w hw => ⟨[5], _, eg_name, fun i hi => hi, .k (.k (.k (.k (.k (.x .nil))))), ev_cb (ea_cons (ev_var rfl) ea_nil) (cl_intS (num_int (List.all_eq_true.mp r2 w hw)) (by have := (numOk_parts (List.all_eq_true.mp r2 w hw)).2.1; omega))⟩)) ?_
        rw [List.map_map]
        rfl
    · rw [r1] at loop
      refine ⟨.err T.c_BadLine at_, ρ2, ?_, ?_⟩
      · show rowR T (rowOf wd many line) at_ = _
        rw [hrow, if_neg (fun z => by rw [List.tail_cons, r2] at z; cases z.2.2)]
        rfl
      · refine Ex.seq (Ex.setN (i := 4) hsp (by show 4 < 6; decide)) (Ex.freeze 4 rfl ?_)
        refine Ex.of (ρ' := ρ1) rfl ?_
        refine Ex.ite htest (fun z => by rw [decide_eq_true c] at z; cases z) (fun z => Ex.skip ?_)
        exact Ex.seqE loop rfl

end
end Q

set_option Elab.async false
set_option linter.all false
set_option maxRecDepth 100000
set_option maxHeartbeats 4000000
namespace Q
open PySem PySem.Spec PyProof.Rows L2 Z QT TL
local macro_rules | `(tactic| walk_at "zo") => `(tactic| first
  | with_reducible exact o_int0 | with_reducible exact o_bool0 | exact o_eqI | exact o_neI
  | exact o_intC (by assumption) | exact o_intC (by show (0 : Int) < _; omega) | exact o_intC ⟨by omega, by omega⟩ | exact o_intC (Or.inr ⟨by omega, by omega⟩) | exact o_intC (Or.inl ⟨by omega, by omega⟩) | exact o_intC ⟨by decide, by decide, by decide⟩
  | exact o_ixL (by assumption) | exact Op2.l (o_ixL (by assumption)) | exact o_ixT rfl | exact o_inT2 | exact o_inT | exact o_inL | exact Op2.r o_inL | exact o_notInL | exact Op2.r o_notInL | exact o_isN | exact o_notN)
local macro_rules | `(tactic| walk_at "zc") => `(tactic| first
  | exact cl_len | exact cl_lenP | exact cl_int | exact cl_abs | exact cl_min2 | exact cl_max2 | exact cl_intB | exact cl_sum | exact cl_any | exact cl_all)
local macro_rules | `(tactic| walk_at "za") => `(tactic| first
  | with_reducible exact ea_nil | with_reducible exact ed_nil
  | ((with_reducible refine' ed_cons ?z1 ?z2); (case z1 => walk_at "ze"); (case z2 => walk_at "za"))
  | ((with_reducible refine' ea_cons ?z1 ?z2); (case z1 => walk_at "ze"); (case z2 => walk_at "za")))
local macro_rules | `(tactic| walk_at "ze") => `(tactic| first
  | with_reducible assumption
  | with_reducible exact ev_int | with_reducible exact ev_bl | with_reducible exact ev_non | with_reducible exact ev_str
  | ((with_reducible refine' ev_b ?z1); (case z1 => rfl)) | ((with_reducible refine' ev_var ?z1); (case z1 => rfl)) | ((with_reducible refine' ev_o ?z1); (case z1 => rfl))
  | ((with_reducible refine' ev_op ?z1 ?z2 ?z3); (case z1 => walk_at "ze"); (case z2 => walk_at "ze"); (case z3 => walk_at "zo"))
  | ((with_reducible refine' ev_chain ?z1 ?z2 ?z3 ?z4 ?z5); (case z1 => walk_at "ze"); (case z2 => walk_at "ze"); (case z4 => walk_at "zo"); (case z3 => intro _; walk_at "ze"); (case z5 => intro _; walk_at "zo"))
  | ((with_reducible refine' ev_andV ?z1 ?z2); (case z1 => walk_at "ze"); (case z2 => intro _; walk_at "ze"))
  | ((with_reducible refine' ev_orV ?z1 ?z2); (case z1 => walk_at "ze"); (case z2 => intro _; walk_at "ze"))
  | ((with_reducible refine' ev_notV ?z1); (case z1 => walk_at "ze"))
  | ((with_reducible refine' ev_neg ?z1); (case z1 => walk_at "ze"))
  | ((with_reducible refine' ev_tupD ?z1 ?z2); (case z1 => walk_at "za"); (case z2 => exact Nat.le_of_ble_eq_true rfl))
  | ((with_reducible refine' ev_cb ?z1 ?z2); (case z1 => walk_at "za"); (case z2 => walk_at "zc"))
  | ((with_reducible refine' EvN.ev ?z1); (case z1 => walk_at "zn"))
  | walk_at "zf")
local macro_rules | `(tactic| walk_at "zb") => `(tactic| first
  | with_reducible assumption
  | ((with_reducible refine' ev_b ?z1); (case z1 => rfl)) | ((with_reducible refine' ev_o ?z1); (case z1 => rfl))
  | ((with_reducible refine' Ev.bl ?z1); (case z1 => walk_at "ze")))
local macro_rules | `(tactic| walk_at "zn") => `(tactic| first
  | with_reducible assumption
  | ((with_reducible refine' en_lstD ?z1 ?z2); (case z1 => walk_at "za"); (case z2 => exact Nat.le_of_ble_eq_true rfl))
  | ((with_reducible refine' en_cb ?z1 ?z2); (case z1 => walk_at "za"); (case z2 => first | exact cl_list | exact cl_listP)))
local macro_rules | `(tactic| walk_at "zt") => `(tactic| first
  | with_reducible assumption
  | ((with_reducible refine' et_test ?z1); (case z1 => walk_at "ze"))
  | ((with_reducible refine' et_B ?z1); (case z1 => walk_at "ze"))
  | ((with_reducible refine' et_and ?z1 ?z2); (case z1 => walk_at "zt"); (case z2 => intro _; walk_at "zt"))
  | ((with_reducible refine' et_or ?z1 ?z2); (case z1 => walk_at "zt"); (case z2 => intro _; walk_at "zt"))
  | ((with_reducible refine' et_not ?z1); (case z1 => walk_at "zt")))
local macro_rules | `(tactic| walk_at "zf") => `(tactic| first
  | ((with_reducible refine' c_is_size ?z1); (case z1 => walk_at "ze"))
  | ((with_reducible refine' c_is_price ?z1); (case z1 => walk_at "ze"))
  | ((with_reducible refine' c_are_ends ?z1 ?z2 ?z3); (case z1 => walk_at "ze"); (case z2 => walk_at "ze"); (case z3 => walk_at "ze"))
  | ((with_reducible refine' c_mix ?z0 ?z1 ?z2 ?z3); (case z1 => walk_at "zb"); (case z2 => walk_at "ze"); (case z3 => walk_at "ze"); (case z0 => first | assumption | omega | decide))
  | ((with_reducible refine' fld_size (by assumption) ?z1); (case z1 => walk_at "ze"))
  | ((with_reducible refine' fld_edges (by assumption) ?z1); (case z1 => walk_at "ze")))
local macro_rules | `(tactic| walk_at "zc") => `(tactic| exact cl_lenS)
local macro_rules | `(tactic| walk_at "zo") => `(tactic| exact o_ixS (by omega) (by assumption))
local macro_rules | `(tactic| walk_at "zf") => `(tactic| ((with_reducible refine' c_is_number ?z0 ?z1); (case z1 => walk_at "ze"); (case z0 => first | assumption | omega)))
local macro_rules | `(tactic| walk_at "ze") => `(tactic| ((with_reducible refine' ev_is0 ?z1); (case z1 => walk_at "ze")))
local macro_rules | `(tactic| walk_at "zc") => `(tactic| exact cl_lenStr (by show _ ≤ 16777216; omega))
local macro_rules | `(tactic| walk_at "zo") => `(tactic| first | exact o_eqS | exact o_neS)
section
variable {P : Program} {w : World} {K : PySem.W.Frag} {mg : Str → Option Value} {base : Heap}
theorem ok_read_edge (T : Tx K mg) : FnOk P w K mg base (L2.CX P w) 4 T.f_read_edge T.fd_read_edge ["line", "at", "size"] (sp_read_edge T) := by
  refine T.F_read_edge.okX sc_read_edge (SpA.len fun _ => rfl) (fun cdv A outer s H vs Q E hr h => ⟨_, (pss_cons (ps_asg (pe_call (ok_read_line T) (hr.mono (by decide)) (by rfl) T.g_read_line T.F_read_line.kp T.b_read_line .nil (passes_call (takes_of rfl rfl rfl rfl) fun _ _ _ _ z => z) (pa_cons (pv 0) (pa_cons (pv 1) (pa_cons pe_str (pa_cons pe_int pa_nil))))) (kpg_lst K (n := 3) rfl (pgs_cons (pg_name (i := 3) sc_read_edge.nd rfl (by first | exact Or.inl rfl | exact Or.inr rfl)) (pgs_cons (pg_name (i := 4) sc_read_edge.nd rfl (by first | exact Or.inl rfl | exact Or.inr rfl)) (pgs_cons (pg_name (i := 5) sc_read_edge.nd rfl (by first | exact Or.inl rfl | exact Or.inr rfl)) pgs_nil)))))
      (pss_cons (ps_if (pt_not (pt_val (pe_call (ok_are_ends T) (hr.mono (by decide)) (by rfl) T.g_are_ends T.F_are_ends.kp T.b_are_ends .nil (passes_call (takes_of rfl rfl rfl rfl) fun _ _ _ _ z => z) (pa_cons (pv 2) (pa_cons (pv 3) (pa_cons (pv 4) pa_nil))))))
        (pss_one (ps_raise rfl (takes_of rfl rfl rfl rfl) (pmk_oex T.x_BadVertex.1 T.x_BadVertex.2.2.1 T.x_BadVertex.2.2.2.1 (ok_WebError___init__ T) (hr.mono (by decide)) T.b_WebError___init__ .nil pass_no (by rfl) T.x_BadVertex.2.2.2.2 (pa_cons (pv 1) pa_nil))))
        pss_nil)
      (pss_cons (ps_if (pt_not (pt_val (pe_call (ok_is_price T) (hr.mono (by decide)) (by rfl) T.g_is_price T.F_is_price.kp T.b_is_price .nil (passes_call (takes_of rfl rfl rfl rfl) fun _ _ _ _ z => z) (pa_cons (pv 5) pa_nil))))
        (pss_one (ps_raise rfl (takes_of rfl rfl rfl rfl) (pmk_oex T.x_BadPrice.1 T.x_BadPrice.2.2.1 T.x_BadPrice.2.2.2.1 (ok_WebError___init__ T) (hr.mono (by decide)) T.b_WebError___init__ .nil pass_no (by rfl) T.x_BadPrice.2.2.2.2 (pa_cons (pv 1) pa_nil))))
        pss_nil)
      (pss_one (ps_ret (pe_tup (pa_cons (pv 3) (pa_cons (pv 4) (pa_cons (pv 5) pa_nil))))))))), ?_⟩)
  refine SpA.go h N_read_edge 3 (fun _ => rfl) ?_
  rintro ⟨line, at_, n⟩ hl
  have hl : line.length ≤ 1000000 := hl
  rcases kind_edge (n := n) (l := line) with ⟨h1, h2⟩ | ⟨u, v, p, h1, h2⟩
  · refine ⟨.err T.c_BadLine at_, [.b (pu (dat (.str line))), .b (pu (dI at_)), .b (pu (dI n)), .x, .x, .x], by show edgeR T (edgeOf n line) at_ = _; rw [h2]; rfl, ?_⟩
    exact Ex.seqE (Ex.asgX (x_read_line hl (by decide) h1 (ev_b rfl) (ev_b rfl) ev_str ev_int)) rfl
  · have asg : ∀ {t : TS} {o : Out}, Ex (WofE E) t [.b (pu (dat (.str line))), .b (pu (dI at_)), .b (pu (dI n)), .p (dI u), .p (dI v), .p (dI p)] o → Ex (WofE E) (tSeq (tAsg (tCall (sp_read_line T) [] E (tCons (tVar 0) (tCons (tVar 1) (tCons (tC (.str (PySem.Str.ofString "edge"))) (tCons (tC (.int 3)) tNil))))) (gLst K 3 (gCons (gName 3) (gCons (gName 4) (gCons (gName 5) gNil))))) t) [.b (pu (dat (.str line))), .b (pu (dI at_)), .b (pu (dI n)), .x, .x, .x] o := fun k =>
      Ex.seq (Ex.asg (R := dat (.list ([u, v, p].map .int))) (EvN.ev (c_read_line (many := 3) hl (by decide) h1 (ev_b rfl) (ev_b rfl) ev_str ev_int)) (eg_lst (egs_cons eg_name (egs_cons eg_name (egs_cons eg_name egs_nil))) rfl)) k
    by_cases c1 : isEnds n u v = true
    case neg =>
      rw [if_neg c1] at h2
      refine ⟨.err T.c_BadVertex at_, [.b (pu (dat (.str line))), .b (pu (dI at_)), .b (pu (dI n)), .p (dI u), .p (dI v), .p (dI p)], by show edgeR T (edgeOf n line) at_ = _; rw [h2]; rfl, asg ?_⟩
      exact Ex.ite (b := !(isEnds n u v)) (by walk_at "zt") (fun z => Ex.seqE (Ex.raise_ (by walk_at "za") T.x_BadVertex.1 T.x_BadVertex.2.1) rfl) (fun z => absurd (by simpa using z) c1)
    case pos =>
      rw [if_pos c1] at h2
      by_cases c2 : isPrice p = true
      case neg =>
        rw [if_neg c2] at h2
        refine ⟨.err T.c_BadPrice at_, [.b (pu (dat (.str line))), .b (pu (dI at_)), .b (pu (dI n)), .p (dI u), .p (dI v), .p (dI p)], by show edgeR T (edgeOf n line) at_ = _; rw [h2]; rfl, asg ?_⟩
        refine Ex.ite (b := !(isEnds n u v)) (by walk_at "zt") (fun z => by rw [c1] at z; cases z) (fun z => Ex.skip ?_)
        exact Ex.ite (b := !(isPrice p)) (by walk_at "zt") (fun z => Ex.seqE (Ex.raise_ (by walk_at "za") T.x_BadPrice.1 T.x_BadPrice.2.1) rfl) (fun z => absurd (by simpa using z) c2)
      case pos =>
        rw [if_pos c2] at h2
        refine ⟨.ok (dat (eE (u, v, p))), [], by show edgeR T (edgeOf n line) at_ = _; rw [h2]; rfl, asg ?_⟩
        refine Ex.ite (b := !(isEnds n u v)) (by walk_at "zt") (fun z => by rw [c1] at z; cases z) (fun z => Ex.skip ?_)
        refine Ex.ite (b := !(isPrice p)) (by walk_at "zt") (fun z => by rw [c2] at z; cases z) (fun z => Ex.skip ?_)
        exact Ex.is (Ex.ret (by walk_at "ze")) (by rfl)

end
end Q

set_option Elab.async false
set_option linter.all false
set_option maxRecDepth 100000
set_option maxHeartbeats 4000000
namespace Q
open PySem PySem.Spec PyProof.Rows L2 Z QT TL
local macro_rules | `(tactic| walk_at "zo") => `(tactic| first
  | with_reducible exact o_int0 | with_reducible exact o_bool0 | exact o_eqI | exact o_neI
  | exact o_intC (by assumption) | exact o_intC (by show (0 : Int) < _; omega) | exact o_intC ⟨by omega, by omega⟩ | exact o_intC (Or.inr ⟨by omega, by omega⟩) | exact o_intC (Or.inl ⟨by omega, by omega⟩) | exact o_intC ⟨by decide, by decide, by decide⟩
  | exact o_ixL (by assumption) | exact Op2.l (o_ixL (by assumption)) | exact o_ixT rfl | exact o_inT2 | exact o_inT | exact o_inL | exact Op2.r o_inL | exact o_notInL | exact Op2.r o_notInL | exact o_isN | exact o_notN)
local macro_rules | `(tactic| walk_at "zc") => `(tactic| first
  | exact cl_len | exact cl_lenP | exact cl_int | exact cl_abs | exact cl_min2 | exact cl_max2 | exact cl_intB | exact cl_sum | exact cl_any | exact cl_all)
local macro_rules | `(tactic| walk_at "za") => `(tactic| first
  | with_reducible exact ea_nil | with_reducible exact ed_nil
  | ((with_reducible refine' ed_cons ?z1 ?z2); (case z1 => walk_at "ze"); (case z2 => walk_at "za"))
  | ((with_reducible refine' ea_cons ?z1 ?z2); (case z1 => walk_at "ze"); (case z2 => walk_at "za")))
local macro_rules | `(tactic| walk_at "ze") => `(tactic| first
  | with_reducible assumption
  | with_reducible exact ev_int | with_reducible exact ev_bl | with_reducible exact ev_non | with_reducible exact ev_str
  | ((with_reducible refine' ev_b ?z1); (case z1 => rfl)) | ((with_reducible refine' ev_var ?z1); (case z1 => rfl)) | ((with_reducible refine' ev_o ?z1); (case z1 => rfl))
  | ((with_reducible refine' ev_op ?z1 ?z2 ?z3); (case z1 => walk_at "ze"); (case z2 => walk_at "ze"); (case z3 => walk_at "zo"))
  | ((with_reducible refine' ev_chain ?z1 ?z2 ?z3 ?z4 ?z5); (case z1 => walk_at "ze"); (case z2 => walk_at "ze"); (case z4 => walk_at "zo"); (case z3 => intro _; walk_at "ze"); (case z5 => intro _; walk_at "zo"))
  | ((with_reducible refine' ev_andV ?z1 ?z2); (case z1 => walk_at "ze"); (case z2 => intro _; walk_at "ze"))
  | ((with_reducible refine' ev_orV ?z1 ?z2); (case z1 => walk_at "ze"); (case z2 => intro _; walk_at "ze"))
  | ((with_reducible refine' ev_notV ?z1); (case z1 => walk_at "ze"))
  | ((with_reducible refine' ev_neg ?z1); (case z1 => walk_at "ze"))
  | ((with_reducible refine' ev_tupD ?z1 ?z2); (case z1 => walk_at "za"); (case z2 => exact Nat.le_of_ble_eq_true rfl))
  | ((with_reducible refine' ev_cb ?z1 ?z2); (case z1 => walk_at "za"); (case z2 => walk_at "zc"))
  | ((with_reducible refine' EvN.ev ?z1); (case z1 => walk_at "zn"))
  | walk_at "zf")
local macro_rules | `(tactic| walk_at "zb") => `(tactic| first
  | with_reducible assumption
  | ((with_reducible refine' ev_b ?z1); (case z1 => rfl)) | ((with_reducible refine' ev_o ?z1); (case z1 => rfl))
  | ((with_reducible refine' Ev.bl ?z1); (case z1 => walk_at "ze")))
local macro_rules | `(tactic| walk_at "zn") => `(tactic| first
  | with_reducible assumption
  | ((with_reducible refine' en_lstD ?z1 ?z2); (case z1 => walk_at "za"); (case z2 => exact Nat.le_of_ble_eq_true rfl))
  | ((with_reducible refine' en_cb ?z1 ?z2); (case z1 => walk_at "za"); (case z2 => first | exact cl_list | exact cl_listP)))
local macro_rules | `(tactic| walk_at "zt") => `(tactic| first
  | with_reducible assumption
  | ((with_reducible refine' et_test ?z1); (case z1 => walk_at "ze"))
  | ((with_reducible refine' et_B ?z1); (case z1 => walk_at "ze"))
  | ((with_reducible refine' et_and ?z1 ?z2); (case z1 => walk_at "zt"); (case z2 => intro _; walk_at "zt"))
  | ((with_reducible refine' et_or ?z1 ?z2); (case z1 => walk_at "zt"); (case z2 => intro _; walk_at "zt"))
  | ((with_reducible refine' et_not ?z1); (case z1 => walk_at "zt")))
local macro_rules | `(tactic| walk_at "zf") => `(tactic| first
  | ((with_reducible refine' c_is_size ?z1); (case z1 => walk_at "ze"))
  | ((with_reducible refine' c_is_price ?z1); (case z1 => walk_at "ze"))
  | ((with_reducible refine' c_are_ends ?z1 ?z2 ?z3); (case z1 => walk_at "ze"); (case z2 => walk_at "ze"); (case z3 => walk_at "ze"))
  | ((with_reducible refine' c_mix ?z0 ?z1 ?z2 ?z3); (case z1 => walk_at "zb"); (case z2 => walk_at "ze"); (case z3 => walk_at "ze"); (case z0 => first | assumption | omega | decide))
  | ((with_reducible refine' fld_size (by assumption) ?z1); (case z1 => walk_at "ze"))
  | ((with_reducible refine' fld_edges (by assumption) ?z1); (case z1 => walk_at "ze")))
local macro_rules | `(tactic| walk_at "zc") => `(tactic| exact cl_lenS)
local macro_rules | `(tactic| walk_at "zo") => `(tactic| exact o_ixS (by omega) (by assumption))
local macro_rules | `(tactic| walk_at "zf") => `(tactic| ((with_reducible refine' c_is_number ?z0 ?z1); (case z1 => walk_at "ze"); (case z0 => first | assumption | omega)))
local macro_rules | `(tactic| walk_at "ze") => `(tactic| ((with_reducible refine' ev_is0 ?z1); (case z1 => walk_at "ze")))
local macro_rules | `(tactic| walk_at "zc") => `(tactic| exact cl_lenStr (by show _ ≤ 16777216; omega))
local macro_rules | `(tactic| walk_at "zo") => `(tactic| first | exact o_eqS | exact o_neS)
section
variable {P : Program} {w : World} {K : PySem.W.Frag} {mg : Str → Option Value} {base : Heap}
theorem ok_read_network (T : Tx K mg) : FnOk P w K mg base (L2.CX P w) 5 T.f_read_network T.fd_read_network ["text"] (sp_read_network T) := by
  refine T.F_read_network.okX sc_read_network (SpA.len fun _ => rfl) (fun cdv A outer s H vs Q E hr h => ⟨_, (pss_cons (ps_set (i := 1) sc_read_network.nd rfl (by first | exact Or.inl rfl | exact Or.inr rfl) (pe_split (pv 0) pe_str))
      (pss_cons (ps_set (i := 2) sc_read_network.nd rfl (by first | exact Or.inl rfl | exact Or.inr rfl) (pe_bm0 PySem.F.plainAttrs_list PySem.F.slot_list_pop PySem.F.type_list_pop mt_pop (pv 1)))
      (pss_cons (ps_if (pt_not (pt_truth (pv 1) (fun _ => rfl)))
        (pss_one (ps_raise rfl (takes_of rfl rfl rfl rfl) (pmk_oex T.x_BadLine.1 T.x_BadLine.2.2.1 T.x_BadLine.2.2.2.1 (ok_WebError___init__ T) (hr.mono (by decide)) T.b_WebError___init__ .nil pass_no (by rfl) T.x_BadLine.2.2.2.2 (pa_cons pe_int pa_nil))))
        pss_nil)
      (pss_cons (ps_set (i := 3) sc_read_network.nd rfl (by first | exact Or.inl rfl | exact Or.inr rfl) (pe_ix (kix_list K) (pe_call (ok_read_line T) (hr.mono (by decide)) (by rfl) T.g_read_line T.F_read_line.kp T.b_read_line .nil (passes_call (takes_of rfl rfl rfl rfl) fun _ _ _ _ z => z) (pa_cons (pe_ix (kix_list K) (pv 1) pe_int (fun _ _ => rfl)) (pa_cons pe_int (pa_cons pe_str (pa_cons pe_int pa_nil))))) pe_int (fun _ _ => rfl)))
      (pss_cons (ps_if (pt_not (pt_val (pe_call (ok_is_size T) (hr.mono (by decide)) (by rfl) T.g_is_size T.F_is_size.kp T.b_is_size .nil (passes_call (takes_of rfl rfl rfl rfl) fun _ _ _ _ z => z) (pa_cons (pv 3) pa_nil))))
        (pss_one (ps_raise rfl (takes_of rfl rfl rfl rfl) (pmk_oex T.x_BadVertex.1 T.x_BadVertex.2.2.1 T.x_BadVertex.2.2.2.1 (ok_WebError___init__ T) (hr.mono (by decide)) T.b_WebError___init__ .nil pass_no (by rfl) T.x_BadVertex.2.2.2.2 (pa_cons pe_int pa_nil))))
        pss_nil)
      (pss_cons (ps_set (i := 4) sc_read_network.nd rfl (by first | exact Or.inl rfl | exact Or.inr rfl) (pe_lst pa_nil))
      (pss_cons (ps_for (passes_of rfl) rfl (kpi_enum K (by rfl) T.z_enumerate (pa_cons (pv 1) pa_nil)) (kpg_tup K (n := 2) rfl (pgs_cons (pg_name (i := 5) sc_read_network.nd rfl (by first | exact Or.inl rfl | exact Or.inr rfl)) (pgs_cons (pg_name (i := 6) sc_read_network.nd rfl (by first | exact Or.inl rfl | exact Or.inr rfl)) pgs_nil)))
        (pss_cons (ps_if (pt_cmpR op_gt (pv 5) pe_int (nomark _))
        (pss_one (ps_expr (pe_bm PySem.F.plainAttrs_list PySem.F.slot_list_append PySem.F.type_list_append mt_append (pv 4) (pa_cons (pe_call (ok_read_edge T) (hr.mono (by decide)) (by rfl) T.g_read_edge T.F_read_edge.kp T.b_read_edge .nil (passes_call (takes_of rfl rfl rfl rfl) fun _ _ _ _ z => z) (pa_cons (pv 6) (pa_cons (pv 5) (pa_cons (pv 3) pa_nil)))) pa_nil))))
        pss_nil)
      (pss_one (ps_if (pt_cmpR op_gt (pe_callB (kcall_len K) (by rfl) T.z_len PySem.boot_len (pa_cons (pv 4) pa_nil)) (pe_glob (v := .int 200) (by rfl) T.k_MOST_EDGES ⟨_, rfl⟩) (nomark _))
        (pss_one (ps_raise rfl (takes_of rfl rfl rfl rfl) (pmk_oex T.x_TooMany.1 T.x_TooMany.2.2.1 T.x_TooMany.2.2.2.1 (ok_WebError___init__ T) (hr.mono (by decide)) T.b_WebError___init__ .nil pass_no (by rfl) T.x_TooMany.2.2.2.2 (pa_cons (pv 5) pa_nil))))
        pss_nil))))
      (pss_cons (ps_if (pt_cmpR op_ne (pv 2) pe_str (nomark _))
        (pss_one (ps_raise rfl (takes_of rfl rfl rfl rfl) (pmk_oex T.x_BadLine.1 T.x_BadLine.2.2.1 T.x_BadLine.2.2.2.1 (ok_WebError___init__ T) (hr.mono (by decide)) T.b_WebError___init__ .nil pass_no (by rfl) T.x_BadLine.2.2.2.2 (pa_cons (pe_callB (kcall_len K) (by rfl) T.z_len PySem.boot_len (pa_cons (pv 1) pa_nil)) pa_nil))))
        pss_nil)
      (pss_one (ps_ret (pe_make T.mk_Network (ok_Network___init__ T) (hr.mono (by decide)) (by rfl) T.g_Network T.b_Network___init__ .nil (passes_call (takes_of rfl rfl rfl rfl) fun _ _ _ _ z => z) (pa_cons (pv 3) (pa_cons (pv 4) pa_nil))))))))))))), ?_⟩)
  refine SpA.go h N_read_network 1 (fun _ => rfl) ?_
  intro t hl
  have hl : t.length ≤ 1000000 := hl
  have hne := split_ne t (s := 10) (by decide)
  have hwl : ∀ w ∈ Txt.split t (sepS 10), w.length ≤ 1000000 := fun w hw => Nat.le_trans (word_le (by decide) hw) hl
  have hT : readT t = readL (Txt.split t (sepS 10)) := rfl
  obtain ⟨ls, hls⟩ : ∃ ls, ls = Txt.split t (sepS 10) := ⟨_, rfl⟩
  rw [← hls] at hne hwl hT
  have hcat := List.dropLast_concat_getLast hne
  obtain ⟨bd, hbd⟩ : ∃ bd, bd = ls.dropLast := ⟨_, rfl⟩
  obtain ⟨lst, hlst⟩ : ∃ l, l = ls.getLast hne := ⟨_, rfl⟩
  have hlast : ls.getLast? = some lst := by rw [List.getLast?_eq_some_getLast hne, hlst]
  rw [← hbd, ← hlst] at hcat
  have hbl : ∀ w ∈ bd, w.length ≤ 1000000 := fun w hw => hwl w (by rw [← hcat]; exact List.mem_append_left _ hw)
  let ρ1 : List Sl := [.b (pu (dat (.str t))), .p (dat (.list (bd.map .str))), .p (dat (.str lst)), .x, .x, .x, .x]
  have hsp : EvN (tM1 rSplit (tVar 0) (tC (.str (PySem.Str.ofString "\n")))) [.b (pu (dat (.str t))), .x, .x, .x, .x, .x, .x] (bd.map .str ++ [.str lst]) := EvN.is (en_split (ev_b rfl) ev_str (by decide) (by show _ ≤ 16777216; omega)) (by rw [nl_eq, ← hls, ← hcat, List.map_append]; rfl)
  have top : ∀ {u : TS} {o : Out}, Ex (WofE E) u ρ1 o → Ex (WofE E) (tSeq (tAsg (tM1 rSplit (tVar 0) (tC (.str (PySem.Str.ofString "\n")))) (gName 1)) (tSeq (tAsg (tBM0 K "list" rPop (tVar 1)) (gName 2)) u)) [.b (pu (dat (.str t))), .x, .x, .x, .x, .x, .x] o := fun k =>
    Ex.seq (Ex.setN (i := 1) hsp (by show 1 < 7; decide)) (Ex.seq (Ex.pop (i := 1) (j := 2) (ds := bd.map .str) (d := .str lst) rfl rfl) (Ex.freeze 1 rfl (Ex.of (ρ' := ρ1) rfl k)))
  cases hb : bd with
  | nil =>
    subst hb
    refine ⟨.err T.c_BadLine 0, ρ1, by show readR T (readT t) = _; rw [hT, readL_nil hbd.symm]; rfl, top ?_⟩
    exact Ex.ite (b := !(!([] : List PyData).isEmpty)) (et_not (et_truthL (Ev.bl (ev_var rfl)))) (fun _ => Ex.seqE (Ex.raise_ (by walk_at "za") T.x_BadLine.1 T.x_BadLine.2.1) rfl) (fun z => by cases z)
  | cons l0 r =>
    rw [hb] at hbd
    have hl0 : l0.length ≤ 1000000 := hbl l0 (by rw [hb]; exact List.mem_cons_self ..)
    have e1 : ρ1 = [.b (pu (dat (.str t))), .p (dat (.list ((l0 :: r).map .str))), .p (dat (.str lst)), .x, .x, .x, .x] := by show [_, Sl.p (dat (.list (bd.map .str))), _, _, _, _, _] = _; rw [hb]
    have hi0 : atI ((l0 :: r).map PyData.str) 0 = some (.str l0) := atI_map (en := PyData.str) (by decide) (by rfl)
    rw [e1] at top
    have tst : EvT (tNot (tTruth K (tVar 1))) [.b (pu (dat (.str t))), .p (dat (.list ((l0 :: r).map .str))), .p (dat (.str lst)), .x, .x, .x, .x] false := EvT.is (et_not (et_truthL (ds := (l0 :: r).map .str) (Ev.bl (ev_var rfl)))) (by rfl)
    cases hr : rowOf headW 1 l0 with
    | none =>
      refine ⟨.err T.c_BadLine 0, [.b (pu (dat (.str t))), .p (dat (.list ((l0 :: r).map .str))), .p (dat (.str lst)), .x, .x, .x, .x], by show readR T (readT t) = _; rw [hT, readL_none hbd.symm hr]; rfl, top ?_⟩
      refine Ex.ite tst (fun z => by cases z) (fun _ => Ex.skip ?_)
      exact Ex.seqE (Ex.asgX (ex_opL (x_read_line (many := 1) hl0 (by decide) hr (ev_op (ev_var rfl) ev_int (Op2.l (o_ixL hi0))) ev_int ev_str ev_int))) rfl
    | some ns =>
      obtain ⟨hlen, _⟩ := row_back hr
      match ns, hlen, hr with
      | [m], _, hr =>
        have size : ∀ {u : TS} {o : Out}, Ex (WofE E) u [.b (pu (dat (.str t))), .p (dat (.list ((l0 :: r).map .str))), .p (dat (.str lst)), .p (dI m), .x, .x, .x] o → Ex (WofE E) (tSeq (tIfS (tNot (tTruth K (tVar 1))) (fun _ σ H => tMkO T.c_BadLine (spAt K) [] (tCons (tC (.int 0)) tNil) σ H fun cls d H' => E cls d H') tNext) (tSeq (tAsg (tOp (rIxL K) (tCall (sp_read_line T) [] E (tCons (tOp (rIxL K) (tVar 1) (tC (.int 0))) (tCons (tC (.int 0)) (tCons (tC (.str (PySem.Str.ofString "network"))) (tCons (tC (.int 1)) tNil))))) (tC (.int 0))) (gName 3)) u)) [.b (pu (dat (.str t))), .p (dat (.list ((l0 :: r).map .str))), .p (dat (.str lst)), .x, .x, .x, .x] o := fun k =>
          Ex.ite tst (fun z => by cases z) (fun _ => Ex.skip (Ex.seq (Ex.set (i := 3) (R := dI m) (ev_op (EvN.ev (c_read_line (many := 1) hl0 (by decide) hr (ev_op (ev_var rfl) ev_int (Op2.l (o_ixL hi0))) ev_int ev_str ev_int)) ev_int (Op2.l (o_ixL (atI_map (en := PyData.int) (xs := [m]) (by decide) (by rfl)))))) k))
        by_cases c1 : isSize m = true
        case neg =>
          refine ⟨.err T.c_BadVertex 0, [.b (pu (dat (.str t))), .p (dat (.list ((l0 :: r).map .str))), .p (dat (.str lst)), .p (dI m), .x, .x, .x], by show readR T (readT t) = _; rw [hT, readL_size hbd.symm hr c1]; rfl, top (size ?_)⟩
          exact Ex.ite (b := !(isSize m)) (by walk_at "zt") (fun z => Ex.seqE (Ex.raise_ (by walk_at "za") T.x_BadVertex.1 T.x_BadVertex.2.1) rfl) (fun z => absurd (by simpa using z) c1)
        case pos =>
          let Eρ : List E3 → List Sl := fun es => [.b (pu (dat (.str t))), .p (dat (.list ((l0 :: r).map .str))), .p (dat (.str lst)), .p (dI m), .o (oL (es.map eE)), .x, .x]
          let ρe : List E3 → Str → Nat → List Sl := fun es l k => [.b (pu (dat (.str t))), .p (dat (.list ((l0 :: r).map .str))), .p (dat (.str lst)), .p (dI m), .o (oL (es.map eE)), .p (dI (k : Int)), .p (dat (.str l))]
          have loop := Ex.forF (K := K) (W := WofE E) (S := List E3) (ρ := Eρ []) (wi := iEnum K (tCons (tVar 1) tNil)) (xs := (l0 :: r).zipIdx) (en := fun p : Str × Nat => .tuple [.int (p.2 : Int), .str p.1]) (T := []) (s0 := []) (g := gTup K 2 (gCons (gName 5) (gCons (gName 6) gNil)))
            (tb := tSeq (tIfS (tTest (tOp (rI0 fun i j => V.bl (decide (j < i))) (tVar 5) (tC (V.int 0)))) (tDrop (tBM K "list" rAppend (tVar 4) (tCons (tCall (sp_read_edge T) [] E (tCons (tVar 6) (tCons (tVar 5) (tCons (tVar 3) tNil)))) tNil))) tNext) (tIfS (tTest (tOp (rI0 fun i j => V.bl (decide (j < i))) (tCB (cLen K) (tCons (tVar 4) tNil)) (tC (V.int 200)))) (fun _ σ H => tMkO T.c_TooMany (spAt K) [] (tCons (tVar 5) tNil) σ H fun cls d H' => E cls d H') tNext)) Eρ (lineF T ρe m) (ei_enumT (en := PyData.str) (Ev.s (ev_var rfl))) (Wk.refl _) (fun pre p post s e rr => ⟨fun o ho => (by
              unfold lineF at ho
              split at ho
              · cases ho
              · split at ho
                · cases ho; rfl
                · split at ho
                  · cases ho; rfl
                  · cases ho), [5, 6], ρe s p.1 p.2, eg_tup (egs_cons eg_name (egs_cons eg_name egs_nil)) rfl, by
              have hpl : p.1.length ≤ 1000000 := hbl p.1 (by rw [hb]; exact List.fst_mem_of_mem_zipIdx (show p ∈ (l0 :: r).zipIdx by rw [e]; simp))
              have hsl : s.length ≤ 200 := lineF_len T ρe m pre rr (Nat.zero_le _)
              unfold lineF
              by_cases c0 : p.2 = 0
              · rw [if_pos c0]
                refine Ex.ite (b := decide ((0 : Int) < (p.2 : Int))) (by walk_at "zt") (fun z => by have := of_decide_eq_true z; omega) (fun _ => Ex.skip ?_)
                exact Ex.ife (b := decide ((200 : Int) < ((s.map eE).length : Nat))) (by walk_at "zt") (fun z => by have := of_decide_eq_true z; rw [List.length_map] at this; omega) (fun _ => Ex.go (Ex.out (.k (.k (.k (.k (.k (.x (.x .nil))))))) Ex.next))
              · rw [if_neg c0]
                cases he : edgeOf m p.1 with
                | inl kd =>
                  exact Ex.ite (b := decide ((0 : Int) < (p.2 : Int))) (by walk_at "zt") (fun _ => Ex.seqE (Ex.appendX (i := 4) (ds := s.map eE) rfl (x_read_edge hpl he (ev_var rfl) (ev_var rfl) (ev_var rfl)) rfl) rfl) (fun z => by have := of_decide_eq_false z; omega)
                | inr ed =>
                  have hap : Ex (WofE E) (tDrop (tBM K "list" rAppend (tVar 4) (tCons (tCall (sp_read_edge T) [] E (tCons (tVar 6) (tCons (tVar 5) (tCons (tVar 3) tNil)))) tNil))) (ρe s p.1 p.2) (.nx (ρe (s ++ [ed]) p.1 p.2)) := Ex.is (Ex.append (i := 4) (ds := s.map eE) (d := eE ed) rfl (c_read_edge hpl he (ev_var rfl) (ev_var rfl) (ev_var rfl)) (by rw [List.length_map]; omega) rfl) (by show Out.nx [_, _, _, _, Sl.o (oL (s.map eE ++ [eE ed])), _, _] = Out.nx [_, _, _, _, Sl.o (oL ((s ++ [ed]).map eE)), _, _]; rw [List.map_append]; rfl)
                  by_cases c2 : 200 ≤ s.length
                  · simp only [if_pos c2]
                    refine Ex.ite (b := decide ((0 : Int) < (p.2 : Int))) (by walk_at "zt") (fun _ => Ex.seq hap ?_) (fun z => by have := of_decide_eq_false z; omega)
                    exact Ex.ife (b := decide ((200 : Int) < (((s ++ [ed]).map eE).length : Nat))) (by walk_at "zt") (fun _ => Ex.raise_ (by walk_at "za") T.x_TooMany.1 T.x_TooMany.2.1) (fun z => by have := of_decide_eq_false z; rw [List.length_map, List.length_append] at this; exact absurd (show (200 : Int) < ((s.length + 1 : Nat) : Int) by omega) this)
                  · simp only [if_neg c2]
                    refine Ex.ite (b := decide ((0 : Int) < (p.2 : Int))) (by walk_at "zt") (fun _ => Ex.seq hap ?_) (fun z => by have := of_decide_eq_false z; omega)
                    exact Ex.ife (b := decide ((200 : Int) < (((s ++ [ed]).map eE).length : Nat))) (by walk_at "zt") (fun z => by have := of_decide_eq_true z; rw [List.length_map, List.length_append] at this; exact absurd (show (200 : Int) < ((s.length + 1 : Nat) : Int) from this) (by omega)) (fun _ => Ex.go (Ex.out (.k (.k (.k (.k (.k (.x (.x .nil))))))) Ex.next))⟩)
          have hz : runF (lineF T ρe m) [] ((l0 :: r).zipIdx) = runF (lineF T ρe m) [] (r.zipIdx 1) := by
            rw [List.zipIdx_cons]
            have : lineF T ρe m [] (l0, 0) = .inl [] := by unfold lineF; rw [if_pos rfl]
            conv => lhs; unfold runF
            rw [this]
          rw [hz] at loop
          have hTe : readT t = _ := hT.trans (readL_es hbd.symm hr c1)
          have pre1 : ∀ {u : TS} {o : Out}, Ex (WofE E) u (Eρ []) o → Ex (WofE E) (tSeq (tIfS (tNot (tB (tCall (sp_is_size T) [] E (tCons (tVar 3) tNil)))) (fun _ σ H => tMkO T.c_BadVertex (spAt K) [] (tCons (tC (V.int 0)) tNil) σ H fun cls d H' => E cls d H') tNext) (tSeq (tAsg (tLst tNil) (gName 4)) u)) [.b (pu (dat (.str t))), .p (dat (.list ((l0 :: r).map .str))), .p (dat (.str lst)), .p (dI m), .x, .x, .x] o := fun k =>
            Ex.ite (b := !(isSize m)) (by walk_at "zt") (fun z => by rw [c1] at z; cases z) (fun _ => Ex.skip (Ex.seq (Ex.setN (i := 4) (ds := []) (by walk_at "zn") (by show 4 < 7; decide)) k))
          rcases lineF_run T ρe m r 1 [] (by decide) (by decide) with ⟨es, h1, h2, h3⟩ | ⟨kd, a, ρ, h1, h2⟩
          · rw [h2] at loop
            rw [h1] at hTe
            obtain ⟨es2, g1, g2, g3, g4⟩ := es_back h1
            rw [List.nil_append] at g1
            subst g1
            by_cases c2 : lst = Str.empty
            · have hTe : readT t = .inr (m, es) := hTe.trans (if_pos (by rw [hlast, c2]))
              have F : FineT m es := (read_back hTe).2
              refine ⟨.ok (netR T m es), [], by show readR T (readT t) = _; rw [hTe]; rfl, top (size (pre1 (Ex.seq loop ?_)))⟩
              refine Ex.ite (b := !decide (lst = PySem.Str.ofString "")) (et_test (ev_op (ev_var rfl) ev_str o_neS)) (fun z => by rw [c2, empty_eq, decide_eq_true rfl] at z; cases z) (fun _ => Ex.skip ?_)
              exact Ex.ret (ev_make (F := netI T) (m, es) (ea_cons (ev_var rfl) (ea_cons (ev_o rfl) ea_nil)) trivial (netI_ok T (fine_of F).good))
            · have hTe : readT t = .inl (.line, (l0 :: r).length) := hTe.trans (if_neg (fun z => c2 (by rw [hlast] at z; exact Option.some.inj z)))
              refine ⟨.err T.c_BadLine ((l0 :: r).length : Nat), Eρ es, by show readR T (readT t) = _; rw [hTe]; rfl, top (size (pre1 (Ex.seq loop ?_)))⟩
              refine Ex.ite (b := !decide (lst = PySem.Str.ofString "")) (et_test (ev_op (ev_var rfl) ev_str o_neS)) (fun _ => ?_) (fun z => by rw [empty_eq, decide_eq_false c2] at z; cases z)
              rw [show (l0 :: r).length = ((l0 :: r).map PyData.str).length by rw [List.length_map]]
              exact Ex.seqE (Ex.raise_ (by walk_at "za") T.x_BadLine.1 T.x_BadLine.2.1) rfl
          · rw [h2] at loop
            rw [h1] at hTe
            refine ⟨.err (T.cls (kindT kd)) (a : Int), ρ, by show readR T (readT t) = _; rw [hTe]; rfl, top (size (pre1 (Ex.seqE loop rfl)))⟩

end
end Q

set_option Elab.async false
set_option linter.all false
set_option maxRecDepth 100000
set_option maxHeartbeats 4000000
namespace Q
open PySem PySem.Spec PyProof.Rows L2 Z QT TL
local macro_rules | `(tactic| walk_at "zo") => `(tactic| first
  | with_reducible exact o_int0 | with_reducible exact o_bool0 | exact o_eqI | exact o_neI
  | exact o_intC (by assumption) | exact o_intC (by show (0 : Int) < _; omega) | exact o_intC ⟨by omega, by omega⟩ | exact o_intC (Or.inr ⟨by omega, by omega⟩) | exact o_intC (Or.inl ⟨by omega, by omega⟩) | exact o_intC ⟨by decide, by decide, by decide⟩
  | exact o_ixL (by assumption) | exact Op2.l (o_ixL (by assumption)) | exact o_ixT rfl | exact o_inT2 | exact o_inT | exact o_inL | exact Op2.r o_inL | exact o_notInL | exact Op2.r o_notInL | exact o_isN | exact o_notN)
local macro_rules | `(tactic| walk_at "zc") => `(tactic| first
  | exact cl_len | exact cl_lenP | exact cl_int | exact cl_abs | exact cl_min2 | exact cl_max2 | exact cl_intB | exact cl_sum | exact cl_any | exact cl_all)
local macro_rules | `(tactic| walk_at "za") => `(tactic| first
  | with_reducible exact ea_nil | with_reducible exact ed_nil
  | ((with_reducible refine' ed_cons ?z1 ?z2); (case z1 => walk_at "ze"); (case z2 => walk_at "za"))
  | ((with_reducible refine' ea_cons ?z1 ?z2); (case z1 => walk_at "ze"); (case z2 => walk_at "za")))
local macro_rules | `(tactic| walk_at "ze") => `(tactic| first
  | with_reducible assumption
  | with_reducible exact ev_int | with_reducible exact ev_bl | with_reducible exact ev_non | with_reducible exact ev_str
  | ((with_reducible refine' ev_b ?z1); (case z1 => rfl)) | ((with_reducible refine' ev_var ?z1); (case z1 => rfl)) | ((with_reducible refine' ev_o ?z1); (case z1 => rfl))
  | ((with_reducible refine' ev_op ?z1 ?z2 ?z3); (case z1 => walk_at "ze"); (case z2 => walk_at "ze"); (case z3 => walk_at "zo"))
  | ((with_reducible refine' ev_chain ?z1 ?z2 ?z3 ?z4 ?z5); (case z1 => walk_at "ze"); (case z2 => walk_at "ze"); (case z4 => walk_at "zo"); (case z3 => intro _; walk_at "ze"); (case z5 => intro _; walk_at "zo"))
  | ((with_reducible refine' ev_andV ?z1 ?z2); (case z1 => walk_at "ze"); (case z2 => intro _; walk_at "ze"))
  | ((with_reducible refine' ev_orV ?z1 ?z2); (case z1 => walk_at "ze"); (case z2 => intro _; walk_at "ze"))
  | ((with_reducible refine' ev_notV ?z1); (case z1 => walk_at "ze"))
  | ((with_reducible refine' ev_neg ?z1); (case z1 => walk_at "ze"))
  | ((with_reducible refine' ev_tupD ?z1 ?z2); (case z1 => walk_at "za"); (case z2 => exact Nat.le_of_ble_eq_true rfl))
  | ((with_reducible refine' ev_cb ?z1 ?z2); (case z1 => walk_at "za"); (case z2 => walk_at "zc"))
  | ((with_reducible refine' EvN.ev ?z1); (case z1 => walk_at "zn"))
  | walk_at "zf")
local macro_rules | `(tactic| walk_at "zb") => `(tactic| first
  | with_reducible assumption
  | ((with_reducible refine' ev_b ?z1); (case z1 => rfl)) | ((with_reducible refine' ev_o ?z1); (case z1 => rfl))
  | ((with_reducible refine' Ev.bl ?z1); (case z1 => walk_at "ze")))
local macro_rules | `(tactic| walk_at "zn") => `(tactic| first
  | with_reducible assumption
  | ((with_reducible refine' en_lstD ?z1 ?z2); (case z1 => walk_at "za"); (case z2 => exact Nat.le_of_ble_eq_true rfl))
  | ((with_reducible refine' en_cb ?z1 ?z2); (case z1 => walk_at "za"); (case z2 => first | exact cl_list | exact cl_listP)))
local macro_rules | `(tactic| walk_at "zt") => `(tactic| first
  | with_reducible assumption
  | ((with_reducible refine' et_test ?z1); (case z1 => walk_at "ze"))
  | ((with_reducible refine' et_B ?z1); (case z1 => walk_at "ze"))
  | ((with_reducible refine' et_and ?z1 ?z2); (case z1 => walk_at "zt"); (case z2 => intro _; walk_at "zt"))
  | ((with_reducible refine' et_or ?z1 ?z2); (case z1 => walk_at "zt"); (case z2 => intro _; walk_at "zt"))
  | ((with_reducible refine' et_not ?z1); (case z1 => walk_at "zt")))
local macro_rules | `(tactic| walk_at "zf") => `(tactic| first
  | ((with_reducible refine' c_is_size ?z1); (case z1 => walk_at "ze"))
  | ((with_reducible refine' c_is_price ?z1); (case z1 => walk_at "ze"))
  | ((with_reducible refine' c_are_ends ?z1 ?z2 ?z3); (case z1 => walk_at "ze"); (case z2 => walk_at "ze"); (case z3 => walk_at "ze"))
  | ((with_reducible refine' c_mix ?z0 ?z1 ?z2 ?z3); (case z1 => walk_at "zb"); (case z2 => walk_at "ze"); (case z3 => walk_at "ze"); (case z0 => first | assumption | omega | decide))
  | ((with_reducible refine' fld_size (by assumption) ?z1); (case z1 => walk_at "ze"))
  | ((with_reducible refine' fld_edges (by assumption) ?z1); (case z1 => walk_at "ze")))
local macro_rules | `(tactic| walk_at "zc") => `(tactic| exact cl_lenS)
local macro_rules | `(tactic| walk_at "zo") => `(tactic| exact o_ixS (by omega) (by assumption))
local macro_rules | `(tactic| walk_at "zf") => `(tactic| ((with_reducible refine' c_is_number ?z0 ?z1); (case z1 => walk_at "ze"); (case z0 => first | assumption | omega)))
local macro_rules | `(tactic| walk_at "ze") => `(tactic| ((with_reducible refine' ev_is0 ?z1); (case z1 => walk_at "ze")))
local macro_rules | `(tactic| walk_at "zc") => `(tactic| exact cl_lenStr (by show _ ≤ 16777216; omega))
local macro_rules | `(tactic| walk_at "zo") => `(tactic| first | exact o_eqS | exact o_neS)
section
variable {P : Program} {w : World} {K : PySem.W.Frag} {mg : Str → Option Value} {base : Heap}
theorem ok_law_text (T : Tx K mg) : FnOk P w K mg base (L2.CX P w) 1 T.f_law_text T.fd_law_text ["size", "edges"] (sp_law_text T) := by
  refine T.F_law_text.okX sc_law_text (SpA.len fun _ => rfl) (fun cdv A outer s H vs Q E hr h => ⟨_, (pss_cons (ps_set (i := 2) sc_law_text.nd rfl (by first | exact Or.inl rfl | exact Or.inr rfl) (pe_op op_add_str (pe_op op_add_str pe_str (pe_callTy call_str_int (by rfl) T.z_str (by decide +kernel) (pa_cons (pv 0) pa_nil))) pe_str))
      (pss_cons (ps_for (passes_of rfl) rfl (kpi_list K (pv 1)) (kpg_tup K (n := 3) rfl (pgs_cons (pg_name (i := 3) sc_law_text.nd rfl (by first | exact Or.inl rfl | exact Or.inr rfl)) (pgs_cons (pg_name (i := 4) sc_law_text.nd rfl (by first | exact Or.inl rfl | exact Or.inr rfl)) (pgs_cons (pg_name (i := 5) sc_law_text.nd rfl (by first | exact Or.inl rfl | exact Or.inr rfl)) pgs_nil))))
        (pss_one (ps_set (i := 2) sc_law_text.nd rfl (by first | exact Or.inl rfl | exact Or.inr rfl) (pe_op op_add_str (pe_op op_add_str (pe_op op_add_str (pe_op op_add_str (pe_op op_add_str (pe_op op_add_str (pe_op op_add_str (pv 2) pe_str) (pe_callTy call_str_int (by rfl) T.z_str (by decide +kernel) (pa_cons (pv 3) pa_nil))) pe_str) (pe_callTy call_str_int (by rfl) T.z_str (by decide +kernel) (pa_cons (pv 4) pa_nil))) pe_str) (pe_callTy call_str_int (by rfl) T.z_str (by decide +kernel) (pa_cons (pv 5) pa_nil))) pe_str))))
      (pss_one (ps_ret (pv 2))))), ?_⟩)
  refine SpA.go h N_law_text 2 (fun _ => rfl) ?_
  rintro ⟨n, es⟩ F
  have F : FineT n es := F
  have hsz := size_le F.size
  have hbd := fine_bd F
  have hl := F.len
  have hn := nS_len (n := n) ⟨by omega, by omega⟩
  have l1 : (PySem.Str.ofString "network ").length = 8 := by decide
  have l2 : (PySem.Str.ofString "\n").length = 1 := by decide
  have l3 : (PySem.Str.ofString "edge ").length = 5 := by decide
  have l4 : (PySem.Str.ofString " ").length = 1 := by decide
  have sz : (16777216 : Nat) = sizeLine := by decide
  have num : ∀ {ρ : List Sl} {te : TE} {k : Int}, 0 ≤ k → k < 10 ^ 7 → Ev te ρ (pu (dI k)) → Ev (tCB cStrI (tCons te tNil)) ρ (pu (dat (.str (nS k.toNat)))) := fun {ρ te k} h0 h1 h => Ev.is (ev_cb (ea_cons h ea_nil) (cl_strI (small_log (by omega)))) (by rw [str_nS k h0])
  refine ⟨.ok (dat (.str (netS n es))), [.b (pu (dI n)), .b (pu (dat (eEs es))), .p (dat (.str (netS n es))), .x, .x, .x], rfl, ?_⟩
  refine Ex.seq (Ex.set (i := 2) (R := dat (.str (netS n []))) (Ev.is (ev_op (ev_op ev_str (num (k := n) (by omega) (by omega) (ev_b rfl)) (o_addS (by rw [← sz]; omega))) ev_str (o_addS (by rw [← sz, len_app]; omega))) (by rw [cat_head]))) ?_
  refine Ex.seq (Ex.for_ (K := K) (xs := es) (en := eE) (fun pre => [.b (pu (dI n)), .b (pu (dat (eEs es))), .p (dat (.str (netS n pre))), .x, .x, .x]) (ei_list (Ev.s (ev_b rfl))) (Wk.refl _) ?_) (Ex.ret (ev_var rfl))
  intro pre e post he
  have hem : e ∈ es := by rw [he]; simp
  have hpm : ∀ x ∈ pre, x ∈ es := fun x hx => by rw [he]; exact List.mem_append_left _ hx
  have hp : pre.length ≤ 200 := by
    have := congrArg List.length he
    simp at this
    omega
  have hpl := netS_len F pre hpm
  obtain ⟨b1, b2, b3⟩ := hbd e hem
  have n1 := nS_len b1
  have n2 := nS_len b2
  have n3 := nS_len b3
  refine ⟨_, _, eg_tup (egs_cons eg_name (egs_cons eg_name (egs_cons eg_name egs_nil))) rfl, ?_⟩
  refine Ex.go (Ex.out (ρ' := [.b (pu (dI n)), .b (pu (dat (eEs es))), .p (dat (.str (netS n (pre ++ [e])))), .p (dI e.1), .p (dI e.2.1), .p (dI e.2.2)]) (.k (.k (.k (.x (.x (.x .nil)))))) ?_)
  refine Ex.set (i := 2) (R := dat (.str (netS n (pre ++ [e])))) (Ev.is (ev_op (ev_op (ev_op (ev_op (ev_op (ev_op (ev_op (ev_var rfl) ev_str (o_addS ?_)) (num b1.1 b1.2 (ev_var rfl)) (o_addS ?_)) ev_str (o_addS ?_)) (num b2.1 b2.2 (ev_var rfl)) (o_addS ?_)) ev_str (o_addS ?_)) (num b3.1 b3.2 (ev_var rfl)) (o_addS ?_)) ev_str (o_addS ?_)) (by rw [cat_edge]))
  all_goals (rw [← sz]; first | omega | (simp only [len_app]; omega))

end
end Q

set_option Elab.async false
set_option linter.all false
set_option maxRecDepth 100000
set_option maxHeartbeats 4000000
namespace Q
open PySem PySem.Spec PyProof.Rows L2 Z QT TL
local macro_rules | `(tactic| walk_at "zo") => `(tactic| first
  | with_reducible exact o_int0 | with_reducible exact o_bool0 | exact o_eqI | exact o_neI
  | exact o_intC (by assumption) | exact o_intC (by show (0 : Int) < _; omega) | exact o_intC ⟨by omega, by omega⟩ | exact o_intC (Or.inr ⟨by omega, by omega⟩) | exact o_intC (Or.inl ⟨by omega, by omega⟩) | exact o_intC ⟨by decide, by decide, by decide⟩
  | exact o_ixL (by assumption) | exact Op2.l (o_ixL (by assumption)) | exact o_ixT rfl | exact o_inT2 | exact o_inT | exact o_inL | exact Op2.r o_inL | exact o_notInL | exact Op2.r o_notInL | exact o_isN | exact o_notN)
local macro_rules | `(tactic| walk_at "zc") => `(tactic| first
  | exact cl_len | exact cl_lenP | exact cl_int | exact cl_abs | exact cl_min2 | exact cl_max2 | exact cl_intB | exact cl_sum | exact cl_any | exact cl_all)
local macro_rules | `(tactic| walk_at "za") => `(tactic| first
  | with_reducible exact ea_nil | with_reducible exact ed_nil
  | ((with_reducible refine' ed_cons ?z1 ?z2); (case z1 => walk_at "ze"); (case z2 => walk_at "za"))
  | ((with_reducible refine' ea_cons ?z1 ?z2); (case z1 => walk_at "ze"); (case z2 => walk_at "za")))
local macro_rules | `(tactic| walk_at "ze") => `(tactic| first
  | with_reducible assumption
  | with_reducible exact ev_int | with_reducible exact ev_bl | with_reducible exact ev_non | with_reducible exact ev_str
  | ((with_reducible refine' ev_b ?z1); (case z1 => rfl)) | ((with_reducible refine' ev_var ?z1); (case z1 => rfl)) | ((with_reducible refine' ev_o ?z1); (case z1 => rfl))
  | ((with_reducible refine' ev_op ?z1 ?z2 ?z3); (case z1 => walk_at "ze"); (case z2 => walk_at "ze"); (case z3 => walk_at "zo"))
  | ((with_reducible refine' ev_chain ?z1 ?z2 ?z3 ?z4 ?z5); (case z1 => walk_at "ze"); (case z2 => walk_at "ze"); (case z4 => walk_at "zo"); (case z3 => intro _; walk_at "ze"); (case z5 => intro _; walk_at "zo"))
  | ((with_reducible refine' ev_andV ?z1 ?z2); (case z1 => walk_at "ze"); (case z2 => intro _; walk_at "ze"))
  | ((with_reducible refine' ev_orV ?z1 ?z2); (case z1 => walk_at "ze"); (case z2 => intro _; walk_at "ze"))
  | ((with_reducible refine' ev_notV ?z1); (case z1 => walk_at "ze"))
  | ((with_reducible refine' ev_neg ?z1); (case z1 => walk_at "ze"))
  | ((with_reducible refine' ev_tupD ?z1 ?z2); (case z1 => walk_at "za"); (case z2 => exact Nat.le_of_ble_eq_true rfl))
  | ((with_reducible refine' ev_cb ?z1 ?z2); (case z1 => walk_at "za"); (case z2 => walk_at "zc"))
  | ((with_reducible refine' EvN.ev ?z1); (case z1 => walk_at "zn"))
  | walk_at "zf")
local macro_rules | `(tactic| walk_at "zb") => `(tactic| first
  | with_reducible assumption
  | ((with_reducible refine' ev_b ?z1); (case z1 => rfl)) | ((with_reducible refine' ev_o ?z1); (case z1 => rfl))
  | ((with_reducible refine' Ev.bl ?z1); (case z1 => walk_at "ze")))
local macro_rules | `(tactic| walk_at "zn") => `(tactic| first
  | with_reducible assumption
  | ((with_reducible refine' en_lstD ?z1 ?z2); (case z1 => walk_at "za"); (case z2 => exact Nat.le_of_ble_eq_true rfl))
  | ((with_reducible refine' en_cb ?z1 ?z2); (case z1 => walk_at "za"); (case z2 => first | exact cl_list | exact cl_listP)))
local macro_rules | `(tactic| walk_at "zt") => `(tactic| first
  | with_reducible assumption
  | ((with_reducible refine' et_test ?z1); (case z1 => walk_at "ze"))
  | ((with_reducible refine' et_B ?z1); (case z1 => walk_at "ze"))
  | ((with_reducible refine' et_and ?z1 ?z2); (case z1 => walk_at "zt"); (case z2 => intro _; walk_at "zt"))
  | ((with_reducible refine' et_or ?z1 ?z2); (case z1 => walk_at "zt"); (case z2 => intro _; walk_at "zt"))
  | ((with_reducible refine' et_not ?z1); (case z1 => walk_at "zt")))
local macro_rules | `(tactic| walk_at "zf") => `(tactic| first
  | ((with_reducible refine' c_is_size ?z1); (case z1 => walk_at "ze"))
  | ((with_reducible refine' c_is_price ?z1); (case z1 => walk_at "ze"))
  | ((with_reducible refine' c_are_ends ?z1 ?z2 ?z3); (case z1 => walk_at "ze"); (case z2 => walk_at "ze"); (case z3 => walk_at "ze"))
  | ((with_reducible refine' c_mix ?z0 ?z1 ?z2 ?z3); (case z1 => walk_at "zb"); (case z2 => walk_at "ze"); (case z3 => walk_at "ze"); (case z0 => first | assumption | omega | decide))
  | ((with_reducible refine' fld_size (by assumption) ?z1); (case z1 => walk_at "ze"))
  | ((with_reducible refine' fld_edges (by assumption) ?z1); (case z1 => walk_at "ze")))
local macro_rules | `(tactic| walk_at "zc") => `(tactic| exact cl_lenS)
local macro_rules | `(tactic| walk_at "zo") => `(tactic| exact o_ixS (by omega) (by assumption))
local macro_rules | `(tactic| walk_at "zf") => `(tactic| ((with_reducible refine' c_is_number ?z0 ?z1); (case z1 => walk_at "ze"); (case z0 => first | assumption | omega)))
local macro_rules | `(tactic| walk_at "ze") => `(tactic| ((with_reducible refine' ev_is0 ?z1); (case z1 => walk_at "ze")))
local macro_rules | `(tactic| walk_at "zc") => `(tactic| exact cl_lenStr (by show _ ≤ 16777216; omega))
local macro_rules | `(tactic| walk_at "zo") => `(tactic| first | exact o_eqS | exact o_neS)
section
variable {P : Program} {w : World} {K : PySem.W.Frag} {mg : Str → Option Value} {base : Heap}
theorem ok_law_number (T : Tx K mg) : FnOk P w K mg base (L2.CX P w) 1 T.f_law_number T.fd_law_number ["word"] (sp_law_number T) := by
  refine T.F_law_number.okX sc_law_number (SpA.len fun _ => rfl) (fun cdv A outer s H vs Q E hr h => ⟨_, (pss_cons (ps_setLc (i := 1) (own := [("sign", 2)]) (g := (gName 2)) rfl sc_law_number.nd rfl rfl (sw_true rfl rfl rfl (by decide +kernel)) (pi_str (pv 0)) (blkOk_by (N := N_law_number) (sc := defScope s_law_number) (by decide +kernel)) (fun _ _ _ _ _ => (pg_name (i := 2) sc_law_number.nd rfl (by first | exact Or.inl rfl | exact Or.inr rfl))) (fun _ _ _ _ _ => (pts_one (pt_cmpR op_inS (pv 2) pe_str rfl))) (fun _ _ _ _ _ => (pv 2)))
      (pss_cons (ps_if (PW.pt (pw_or (pt_cmpR op_eq (pe_callB call_len_str (by rfl) T.z_len PySem.boot_len (pa_cons (pv 0) pa_nil)) pe_int (nomark _)) (pw_or (pt_cmpR op_ne (pe_callB (kcall_len K) (by rfl) T.z_len PySem.boot_len (pa_cons (pv 1) pa_nil)) (pe_callB call_len_str (by rfl) T.z_len PySem.boot_len (pa_cons (pv 0) pa_nil)) (nomark _)) (pw_or (pt_cmpR op_gt (pe_callB call_len_str (by rfl) T.z_len PySem.boot_len (pa_cons (pv 0) pa_nil)) pe_int (nomark _)) (pw_or1 (PW.pt (pw_and (pt_cmpR op_gt (pe_callB call_len_str (by rfl) T.z_len PySem.boot_len (pa_cons (pv 0) pa_nil)) pe_int (nomark _)) (pw_and1 (pt_cmpR op_eq (pe_ix ix_str (pv 0) pe_int (fun _ _ => rfl)) pe_str (nomark _))))))))))
        (pss_one (ps_ret pe_non))
        pss_nil)
      (pss_one (ps_ret (pe_callTy call_int_str (by rfl) T.z_int (by decide +kernel) (pa_cons (pv 0) pa_nil)))))), ?_⟩)
  refine SpA.go h N_law_number 1 (fun _ => rfl) ?_
  intro w hl
  have hl : w.length ≤ 100000 := hl
  have hlen := len_tl w
  obtain ⟨c, hc⟩ : ∃ c : Nat, tl w ≠ [] → (tl w)[0]? = some c := by
    cases h : tl w with
    | nil => exact ⟨0, fun z => absurd rfl z⟩
    | cons c r => exact ⟨c, fun _ => rfl⟩
  have hlc : EvN (tLc (iStr (tVar 0)) (gName 2) (tTest (tOp rInS (tVar 2) (tC (.str (PySem.Str.ofString "0123456789"))))) (tVar 2) [2]) [.b (pu (dat (.str w))), .x, .x] (((tl w).filter isD).map fun k => .str ⟨#[k]⟩) := en_lc (K := K) (xs := tl w) (en := fun k => .str ⟨#[k]⟩) (f := fun k => .str ⟨#[k]⟩) (p := isD) (ei_str (ev_b rfl)) ⟨rfl, trivial⟩ (by omega) fun k hk => ⟨[2], _, eg_name, fun i hi => hi, .k (.x (.x .nil)), EvT.is (et_test (ev_op (ev_var rfl) ev_str o_inS)) (digS_in k), fun _ => ev_var rfl⟩
  have tst : EvT (tOr (tTest (tOp rEq (tCB cLenS (tCons (tVar 0) tNil)) (tC (.int 0)))) (tOr (tTest (tOp rNe (tCB (cLen K) (tCons (tVar 1) tNil)) (tCB cLenS (tCons (tVar 0) tNil)))) (tOr (tTest (tOp (rI0 fun i j => V.bl (decide (j < i))) (tCB cLenS (tCons (tVar 0) tNil)) (tC (.int 7)))) (tAnd (tTest (tOp (rI0 fun i j => V.bl (decide (j < i))) (tCB cLenS (tCons (tVar 0) tNil)) (tC (.int 1)))) (tTest (tOp rEq (tOp rIxS (tVar 0) (tC (.int 0))) (tC (.str (PySem.Str.ofString "0"))))))))) [.b (pu (dat (.str w))), .o (oL (((tl w).filter isD).map fun k => .str ⟨#[k]⟩)), .x] (!(numOk w)) := by
    refine EvT.is (et_or (by walk_at "zt") (fun h1 => et_or (et_test (ev_op (ev_cb (ea_cons (ev_o rfl) ea_nil) cl_len) (by walk_at "ze") o_neI)) (fun _ => et_or (by walk_at "zt") (fun _ => et_and (by walk_at "zt") (fun _ => et_test (ev_op (ev_op (ev_b rfl) ev_int (o_ixStr (c := c) (by show _ ≤ 16777216; omega) ?_)) ev_str o_eqS)))))) (numOk_law hc)
    have hz := of_decide_eq_false h1
    have hne : tl w ≠ [] := fun z => by
      rw [z] at hlen
      exact hz (by show ((w.length : Nat) : Int) = 0; rw [hlen]; rfl)
    have h0 := hc hne
    have hpos : (0 : Int) < ((tl w).length : Nat) := by have := List.length_pos_iff.mpr hne; omega
    unfold atI ixN
    rw [if_pos (by decide), if_pos hpos]
    exact h0
  refine ⟨.ok (dat (oD (numO w))), [], rfl, ?_⟩
  refine Ex.seq (Ex.setN (i := 1) hlc (by show 1 < 3; decide)) ?_
  refine Ex.ite tst (fun z => ?_) (fun z => Ex.skip ?_)
  · have : numO w = none := if_neg (by rw [Bool.not_eq_true'] at z; rw [z]; decide)
    rw [this]
    exact Ex.seqE (Ex.ret ev_non) rfl
  · have hk : numOk w = true := by simpa using z
    have : numO w = some (numV w) := if_pos hk
    rw [this]
    exact Ex.ret (ev_cb (ea_cons (ev_b rfl) ea_nil) (cl_intS (num_int hk) (by have := (numOk_parts hk).2.1; omega)))

end
end Q

set_option Elab.async false
set_option linter.all false
set_option maxRecDepth 100000
set_option maxHeartbeats 4000000
namespace Q
open PySem PySem.Spec PyProof.Rows L2 Z QT TL
local macro_rules | `(tactic| walk_at "zo") => `(tactic| first
  | with_reducible exact o_int0 | with_reducible exact o_bool0 | exact o_eqI | exact o_neI
  | exact o_intC (by assumption) | exact o_intC (by show (0 : Int) < _; omega) | exact o_intC ⟨by omega, by omega⟩ | exact o_intC (Or.inr ⟨by omega, by omega⟩) | exact o_intC (Or.inl ⟨by omega, by omega⟩) | exact o_intC ⟨by decide, by decide, by decide⟩
  | exact o_ixL (by assumption) | exact Op2.l (o_ixL (by assumption)) | exact o_ixT rfl | exact o_inT2 | exact o_inT | exact o_inL | exact Op2.r o_inL | exact o_notInL | exact Op2.r o_notInL | exact o_isN | exact o_notN)
local macro_rules | `(tactic| walk_at "zc") => `(tactic| first
  | exact cl_len | exact cl_lenP | exact cl_int | exact cl_abs | exact cl_min2 | exact cl_max2 | exact cl_intB | exact cl_sum | exact cl_any | exact cl_all)
local macro_rules | `(tactic| walk_at "za") => `(tactic| first
  | with_reducible exact ea_nil | with_reducible exact ed_nil
  | ((with_reducible refine' ed_cons ?z1 ?z2); (case z1 => walk_at "ze"); (case z2 => walk_at "za"))
  | ((with_reducible refine' ea_cons ?z1 ?z2); (case z1 => walk_at "ze"); (case z2 => walk_at "za")))
local macro_rules | `(tactic| walk_at "ze") => `(tactic| first
  | with_reducible assumption
  | with_reducible exact ev_int | with_reducible exact ev_bl | with_reducible exact ev_non | with_reducible exact ev_str
  | ((with_reducible refine' ev_b ?z1); (case z1 => rfl)) | ((with_reducible refine' ev_var ?z1); (case z1 => rfl)) | ((with_reducible refine' ev_o ?z1); (case z1 => rfl))
  | ((with_reducible refine' ev_op ?z1 ?z2 ?z3); (case z1 => walk_at "ze"); (case z2 => walk_at "ze"); (case z3 => walk_at "zo"))
  | ((with_reducible refine' ev_chain ?z1 ?z2 ?z3 ?z4 ?z5); (case z1 => walk_at "ze"); (case z2 => walk_at "ze"); (case z4 => walk_at "zo"); (case z3 => intro _; walk_at "ze"); (case z5 => intro _; walk_at "zo"))
  | ((with_reducible refine' ev_andV ?z1 ?z2); (case z1 => walk_at "ze"); (case z2 => intro _; walk_at "ze"))
  | ((with_reducible refine' ev_orV ?z1 ?z2); (case z1 => walk_at "ze"); (case z2 => intro _; walk_at "ze"))
  | ((with_reducible refine' ev_notV ?z1); (case z1 => walk_at "ze"))
  | ((with_reducible refine' ev_neg ?z1); (case z1 => walk_at "ze"))
  | ((with_reducible refine' ev_tupD ?z1 ?z2); (case z1 => walk_at "za"); (case z2 => exact Nat.le_of_ble_eq_true rfl))
  | ((with_reducible refine' ev_cb ?z1 ?z2); (case z1 => walk_at "za"); (case z2 => walk_at "zc"))
  | ((with_reducible refine' EvN.ev ?z1); (case z1 => walk_at "zn"))
  | walk_at "zf")
local macro_rules | `(tactic| walk_at "zb") => `(tactic| first
  | with_reducible assumption
  | ((with_reducible refine' ev_b ?z1); (case z1 => rfl)) | ((with_reducible refine' ev_o ?z1); (case z1 => rfl))
  | ((with_reducible refine' Ev.bl ?z1); (case z1 => walk_at "ze")))
local macro_rules | `(tactic| walk_at "zn") => `(tactic| first
  | with_reducible assumption
  | ((with_reducible refine' en_lstD ?z1 ?z2); (case z1 => walk_at "za"); (case z2 => exact Nat.le_of_ble_eq_true rfl))
  | ((with_reducible refine' en_cb ?z1 ?z2); (case z1 => walk_at "za"); (case z2 => first | exact cl_list | exact cl_listP)))
local macro_rules | `(tactic| walk_at "zt") => `(tactic| first
  | with_reducible assumption
  | ((with_reducible refine' et_test ?z1); (case z1 => walk_at "ze"))
  | ((with_reducible refine' et_B ?z1); (case z1 => walk_at "ze"))
  | ((with_reducible refine' et_and ?z1 ?z2); (case z1 => walk_at "zt"); (case z2 => intro _; walk_at "zt"))
  | ((with_reducible refine' et_or ?z1 ?z2); (case z1 => walk_at "zt"); (case z2 => intro _; walk_at "zt"))
  | ((with_reducible refine' et_not ?z1); (case z1 => walk_at "zt")))
local macro_rules | `(tactic| walk_at "zf") => `(tactic| first
  | ((with_reducible refine' c_is_size ?z1); (case z1 => walk_at "ze"))
  | ((with_reducible refine' c_is_price ?z1); (case z1 => walk_at "ze"))
  | ((with_reducible refine' c_are_ends ?z1 ?z2 ?z3); (case z1 => walk_at "ze"); (case z2 => walk_at "ze"); (case z3 => walk_at "ze"))
  | ((with_reducible refine' c_mix ?z0 ?z1 ?z2 ?z3); (case z1 => walk_at "zb"); (case z2 => walk_at "ze"); (case z3 => walk_at "ze"); (case z0 => first | assumption | omega | decide))
  | ((with_reducible refine' fld_size (by assumption) ?z1); (case z1 => walk_at "ze"))
  | ((with_reducible refine' fld_edges (by assumption) ?z1); (case z1 => walk_at "ze")))
local macro_rules | `(tactic| walk_at "zc") => `(tactic| exact cl_lenS)
local macro_rules | `(tactic| walk_at "zo") => `(tactic| exact o_ixS (by omega) (by assumption))
local macro_rules | `(tactic| walk_at "zf") => `(tactic| ((with_reducible refine' c_is_number ?z0 ?z1); (case z1 => walk_at "ze"); (case z0 => first | assumption | omega)))
local macro_rules | `(tactic| walk_at "ze") => `(tactic| ((with_reducible refine' ev_is0 ?z1); (case z1 => walk_at "ze")))
local macro_rules | `(tactic| walk_at "zc") => `(tactic| exact cl_lenStr (by show _ ≤ 16777216; omega))
local macro_rules | `(tactic| walk_at "zo") => `(tactic| first | exact o_eqS | exact o_neS)
section
variable {P : Program} {w : World} {K : PySem.W.Frag} {mg : Str → Option Value} {base : Heap}
theorem ok_law_row (T : Tx K mg) : FnOk P w K mg base (L2.CX P w) 2 T.f_law_row T.fd_law_row ["line", "head", "many"] (sp_law_row T) := by
  refine T.F_law_row.okX sc_law_row (SpA.len fun _ => rfl) (fun cdv A outer s H vs Q E hr h => ⟨_, (pss_cons (ps_set (i := 3) sc_law_row.nd rfl (by first | exact Or.inl rfl | exact Or.inr rfl) (pe_split (pv 0) pe_str))
      (pss_cons (ps_if (PW.pt (pw_or (pt_cmpR op_ne (pe_ix (kix_list K) (pv 3) pe_int (fun _ _ => rfl)) (pv 1) (nomark _)) (pw_or1 (pt_cmpR op_ne (pe_callB (kcall_len K) (by rfl) T.z_len PySem.boot_len (pa_cons (pv 3) pa_nil)) (pe_op op_add (pv 2) pe_int) (nomark _)))))
        (pss_one (ps_ret pe_non))
        pss_nil)
      (pss_cons (ps_setLc (i := 4) (own := [("word", 5)]) (g := (gName 5)) rfl sc_law_row.nd rfl rfl (sw_true rfl rfl rfl (by decide +kernel)) (kpi_list K (pe_slice (ksl_list K) (pv 3) (po_some pe_int) po_none)) (blkOk_by (N := N_law_row) (sc := defScope s_law_row) (by decide +kernel)) (fun _ _ _ _ _ => (pg_name (i := 5) sc_law_row.nd rfl (by first | exact Or.inl rfl | exact Or.inr rfl))) (fun _ _ _ _ _ => pts_nil) (fun _ _ _ _ _ => (pe_call (ok_law_number T) (hr.mono (by decide)) (by rfl) T.g_law_number T.F_law_number.kp T.b_law_number .nil pass_no (pa_cons (pv 5) pa_nil))))
      (pss_cons (ps_if (pt_cmpR (kop_in K) pe_non (pv 4) rfl)
        (pss_one (ps_ret pe_non))
        pss_nil)
      (pss_one (ps_ret (pv 4))))))), ?_⟩)
  refine SpA.go h N_law_row 3 (fun _ => rfl) ?_
  rintro ⟨line, wd, many⟩ ⟨hl, hm⟩
  have hl : line.length ≤ 50000 := hl
  have hm : many ≤ 100 := hm
  have hne := split_ne line (s := 32) (by decide)
  have hwl : ∀ w ∈ Txt.split line (sepS 32), w.length ≤ 100000 := fun w hw => Nat.le_trans (word_le (by decide) hw) (by omega)
  have hrow : rowOf wd many line = if (Txt.split line (sepS 32))[0]? = some wd ∧ (Txt.split line (sepS 32)).length = many + 1 ∧ (Txt.split line (sepS 32)).tail.all numOk = true then some ((Txt.split line (sepS 32)).tail.map numV) else none := rfl
  obtain ⟨ws, hws⟩ : ∃ ws, ws = Txt.split line (sepS 32) := ⟨_, rfl⟩
  rw [← hws] at hne hwl hrow
  obtain ⟨w0, wt, rfl⟩ := List.exists_cons_of_ne_nil hne
  let ρ1 : List Sl := [.b (pu (dat (.str line))), .b (pu (dat (.str wd))), .b (pu (dI many)), .p (dat (.list ((w0 :: wt).map .str))), .x, .x]
  have hl1 : ((((w0 :: wt).map PyData.str).length : Nat) : Int) = ((wt.length + 1 : Nat) : Int) := by rw [List.length_map, List.length_cons]
  have hi0 : atI ((w0 :: wt).map PyData.str) 0 = some (.str w0) := atI_map (en := PyData.str) (by decide) (by rfl)
  have hsp : EvN (tM1 rSplit (tVar 0) (tC (.str (PySem.Str.ofString " ")))) [.b (pu (dat (.str line))), .b (pu (dat (.str wd))), .b (pu (dI many)), .x, .x, .x] ((w0 :: wt).map .str) := EvN.is (en_split (ev_b rfl) ev_str (by decide) (by show _ ≤ 16777216; omega)) (by rw [sp_eq, hws])
  have htest : EvT (tOr (tTest (tOp rNe (tOp (rIxL K) (tVar 3) (tC (.int 0))) (tVar 1))) (tTest (tOp rNe (tCB (cLen K) (tCons (tVar 3) tNil)) (tOp (rI0 fun i j => V.int (i + j)) (tVar 2) (tC (.int 1)))))) ρ1 (!decide (w0 = wd ∧ wt.length = many)) := by
    refine EvT.is (et_or (et_test (ev_op (ev_op (ev_var rfl) ev_int (Op2.l (o_ixL hi0))) (ev_b rfl) o_neS)) (fun _ => et_test (ev_op (ev_cb (ea_cons (ev_var rfl) ea_nil) cl_lenP) (ev_op (ev_b rfl) ev_int o_int0) o_neI))) ?_
    rw [hl1]
    have : decide (((wt.length + 1 : Nat) : Int) = (many : Int) + 1) = decide (wt.length = many) := by rw [Bool.eq_iff_iff]; simp; omega
    rw [this, Bool.decide_and]
    cases decide (w0 = wd) <;> cases decide (wt.length = many) <;> rfl
  by_cases c : w0 = wd ∧ wt.length = many
  case neg =>
    refine ⟨.ok (dat .none), [], ?_, ?_⟩
    · show Res.ok (dat (rowD (rowOf wd many line))) = _
      rw [hrow, if_neg (fun z => c ⟨Option.some.inj z.1, by simpa using z.2.1⟩)]
      rfl
    · refine Ex.seq (Ex.setN (i := 3) hsp (by show 3 < 6; decide)) (Ex.freeze 3 rfl ?_)
      refine Ex.of (ρ' := ρ1) rfl ?_
      refine Ex.ite htest (fun _ => Ex.seqE (Ex.ret ev_non) rfl) (fun z => ?_)
      rw [decide_eq_false c] at z
      cases z
  case pos =>
    have hlc : EvN (tLc (iList K (tSl (rSlL K) (tVar 3) (tPart (tC (.int 1))) tNoPart)) (gName 5) tYes (tCall (sp_law_number T) [] (fun _ _ _ => False) (tCons (tVar 5) tNil)) [5]) ρ1 ((wt.map numO).map oD) := by
      rw [List.map_map]
      exact en_lc0 (K := K) (xs := wt) (en := PyData.str) (f := fun w => oD (numO w)) (ei_list (Ev.s (EvN.ev (EvN.is (en_sl (Ev.bl (ev_var rfl)) (eo_some ev_int) eo_none) (by rw [cut_tail (by rw [List.length_map, List.length_cons]; omega)]; rfl))))) ⟨rfl, trivial⟩ (by rw [c.2]; omega) fun w hw => ⟨[5], _, eg_name, fun i hi => hi, .k (.k (.k (.k (.x (.x .nil))))), c_law_number (hwl w (List.mem_cons_of_mem _ hw)) (ev_var rfl)⟩
    have hnone : (wt.map numO).any Option.isNone = !(wt.all numOk) := by
      generalize wt = l
      induction l with
      | nil => rfl
      | cons w l ih =>
        rw [List.map_cons, List.any_cons, List.all_cons, ih]
        unfold numO
        cases numOk w <;> rfl
    have pre1 : ∀ {u : TS} {o : Out}, Ex (WofE E) u [.b (pu (dat (.str line))), .b (pu (dat (.str wd))), .b (pu (dI many)), .p (dat (.list ((w0 :: wt).map .str))), .o (oL ((wt.map numO).map oD)), .x] o → Ex (WofE E) (tSeq (tAsg (tLc (iList K (tSl (rSlL K) (tVar 3) (tPart (tC (.int 1))) tNoPart)) (gName 5) tYes (tCall (sp_law_number T) [] (fun _ _ _ => False) (tCons (tVar 5) tNil)) [5]) (gName 4)) u) ρ1 o := fun k => Ex.seq (Ex.setN (i := 4) hlc (by show 4 < 6; decide)) k
    have tin : EvT (tTest (tOp (rIn K false) (tC .non) (tVar 4))) [.b (pu (dat (.str line))), .b (pu (dat (.str wd))), .b (pu (dI many)), .p (dat (.list ((w0 :: wt).map .str))), .o (oL ((wt.map numO).map oD)), .x] (!(wt.all numOk)) := EvT.is (et_test (ev_op ev_non (ev_o rfl) o_inNone)) hnone
    by_cases c3 : wt.all numOk = true
    · refine ⟨.ok (dat (.list ((wt.map numV).map .int))), [], ?_, ?_⟩
      · show Res.ok (dat (rowD (rowOf wd many line))) = _
        rw [hrow, if_pos ⟨by rw [c.1]; rfl, by rw [List.length_cons, c.2], c3⟩]
        rfl
      · refine Ex.seq (Ex.setN (i := 3) hsp (by show 3 < 6; decide)) (Ex.freeze 3 rfl ?_)
        refine Ex.of (ρ' := ρ1) rfl ?_
        refine Ex.ite htest (fun z => by rw [decide_eq_true c] at z; cases z) (fun z => Ex.skip (pre1 ?_))
        refine Ex.ite tin (fun z => by rw [c3] at z; cases z) (fun z => Ex.skip (Ex.freeze 4 rfl ?_))
        refine Ex.is (Ex.ret (R := dat (.list ((wt.map numO).map oD))) (ev_var rfl)) ?_
        have e : (wt.map numO).map oD = (wt.map numV).map PyData.int := by
          rw [List.map_map, List.map_map]
          refine List.map_congr_left fun w hw => ?_
          show oD (numO w) = .int (numV w)
          rw [show numO w = some (numV w) from if_pos (List.all_eq_true.mp c3 w hw)]
          rfl
        rw [e]
        rfl
    · refine ⟨.ok (dat .none), [], ?_, ?_⟩
      · show Res.ok (dat (rowD (rowOf wd many line))) = _
        rw [hrow, if_neg (fun z => c3 z.2.2)]
        rfl
      · refine Ex.seq (Ex.setN (i := 3) hsp (by show 3 < 6; decide)) (Ex.freeze 3 rfl ?_)
        refine Ex.of (ρ' := ρ1) rfl ?_
        refine Ex.ite htest (fun z => by rw [decide_eq_true c] at z; cases z) (fun z => Ex.skip (pre1 ?_))
        exact Ex.ite tin (fun z => Ex.seqE (Ex.ret ev_non) rfl) (fun z => absurd (by simpa using z) c3)

end
end Q

set_option Elab.async false
set_option linter.all false
set_option maxRecDepth 100000
set_option maxHeartbeats 4000000
namespace Q
open PySem PySem.Spec PyProof.Rows L2 Z QT TL
local macro_rules | `(tactic| walk_at "zo") => `(tactic| first
  | with_reducible exact o_int0 | with_reducible exact o_bool0 | exact o_eqI | exact o_neI
  | exact o_intC (by assumption) | exact o_intC (by show (0 : Int) < _; omega) | exact o_intC ⟨by omega, by omega⟩ | exact o_intC (Or.inr ⟨by omega, by omega⟩) | exact o_intC (Or.inl ⟨by omega, by omega⟩) | exact o_intC ⟨by decide, by decide, by decide⟩
  | exact o_ixL (by assumption) | exact Op2.l (o_ixL (by assumption)) | exact o_ixT rfl | exact o_inT2 | exact o_inT | exact o_inL | exact Op2.r o_inL | exact o_notInL | exact Op2.r o_notInL | exact o_isN | exact o_notN)
local macro_rules | `(tactic| walk_at "zc") => `(tactic| first
  | exact cl_len | exact cl_lenP | exact cl_int | exact cl_abs | exact cl_min2 | exact cl_max2 | exact cl_intB | exact cl_sum | exact cl_any | exact cl_all)
local macro_rules | `(tactic| walk_at "za") => `(tactic| first
  | with_reducible exact ea_nil | with_reducible exact ed_nil
  | ((with_reducible refine' ed_cons ?z1 ?z2); (case z1 => walk_at "ze"); (case z2 => walk_at "za"))
  | ((with_reducible refine' ea_cons ?z1 ?z2); (case z1 => walk_at "ze"); (case z2 => walk_at "za")))
local macro_rules | `(tactic| walk_at "ze") => `(tactic| first
  | with_reducible assumption
  | with_reducible exact ev_int | with_reducible exact ev_bl | with_reducible exact ev_non | with_reducible exact ev_str
  | ((with_reducible refine' ev_b ?z1); (case z1 => rfl)) | ((with_reducible refine' ev_var ?z1); (case z1 => rfl)) | ((with_reducible refine' ev_o ?z1); (case z1 => rfl))
  | ((with_reducible refine' ev_op ?z1 ?z2 ?z3); (case z1 => walk_at "ze"); (case z2 => walk_at "ze"); (case z3 => walk_at "zo"))
  | ((with_reducible refine' ev_chain ?z1 ?z2 ?z3 ?z4 ?z5); (case z1 => walk_at "ze"); (case z2 => walk_at "ze"); (case z4 => walk_at "zo"); (case z3 => intro _; walk_at "ze"); (case z5 => intro _; walk_at "zo"))
  | ((with_reducible refine' ev_andV ?z1 ?z2); (case z1 => walk_at "ze"); (case z2 => intro _; walk_at "ze"))
  | ((with_reducible refine' ev_orV ?z1 ?z2); (case z1 => walk_at "ze"); (case z2 => intro _; walk_at "ze"))
  | ((with_reducible refine' ev_notV ?z1); (case z1 => walk_at "ze"))
  | ((with_reducible refine' ev_neg ?z1); (case z1 => walk_at "ze"))
  | ((with_reducible refine' ev_tupD ?z1 ?z2); (case z1 => walk_at "za"); (case z2 => exact Nat.le_of_ble_eq_true rfl))
  | ((with_reducible refine' ev_cb ?z1 ?z2); (case z1 => walk_at "za"); (case z2 => walk_at "zc"))
  | ((with_reducible refine' EvN.ev ?z1); (case z1 => walk_at "zn"))
  | walk_at "zf")
local macro_rules | `(tactic| walk_at "zb") => `(tactic| first
  | with_reducible assumption
  | ((with_reducible refine' ev_b ?z1); (case z1 => rfl)) | ((with_reducible refine' ev_o ?z1); (case z1 => rfl))
  | ((with_reducible refine' Ev.bl ?z1); (case z1 => walk_at "ze")))
local macro_rules | `(tactic| walk_at "zn") => `(tactic| first
  | with_reducible assumption
  | ((with_reducible refine' en_lstD ?z1 ?z2); (case z1 => walk_at "za"); (case z2 => exact Nat.le_of_ble_eq_true rfl))
  | ((with_reducible refine' en_cb ?z1 ?z2); (case z1 => walk_at "za"); (case z2 => first | exact cl_list | exact cl_listP)))
local macro_rules | `(tactic| walk_at "zt") => `(tactic| first
  | with_reducible assumption
  | ((with_reducible refine' et_test ?z1); (case z1 => walk_at "ze"))
  | ((with_reducible refine' et_B ?z1); (case z1 => walk_at "ze"))
  | ((with_reducible refine' et_and ?z1 ?z2); (case z1 => walk_at "zt"); (case z2 => intro _; walk_at "zt"))
  | ((with_reducible refine' et_or ?z1 ?z2); (case z1 => walk_at "zt"); (case z2 => intro _; walk_at "zt"))
  | ((with_reducible refine' et_not ?z1); (case z1 => walk_at "zt")))
local macro_rules | `(tactic| walk_at "zf") => `(tactic| first
  | ((with_reducible refine' c_is_size ?z1); (case z1 => walk_at "ze"))
  | ((with_reducible refine' c_is_price ?z1); (case z1 => walk_at "ze"))
  | ((with_reducible refine' c_are_ends ?z1 ?z2 ?z3); (case z1 => walk_at "ze"); (case z2 => walk_at "ze"); (case z3 => walk_at "ze"))
  | ((with_reducible refine' c_mix ?z0 ?z1 ?z2 ?z3); (case z1 => walk_at "zb"); (case z2 => walk_at "ze"); (case z3 => walk_at "ze"); (case z0 => first | assumption | omega | decide))
  | ((with_reducible refine' fld_size (by assumption) ?z1); (case z1 => walk_at "ze"))
  | ((with_reducible refine' fld_edges (by assumption) ?z1); (case z1 => walk_at "ze")))
local macro_rules | `(tactic| walk_at "zc") => `(tactic| exact cl_lenS)
local macro_rules | `(tactic| walk_at "zo") => `(tactic| exact o_ixS (by omega) (by assumption))
local macro_rules | `(tactic| walk_at "zf") => `(tactic| ((with_reducible refine' c_is_number ?z0 ?z1); (case z1 => walk_at "ze"); (case z0 => first | assumption | omega)))
local macro_rules | `(tactic| walk_at "ze") => `(tactic| ((with_reducible refine' ev_is0 ?z1); (case z1 => walk_at "ze")))
local macro_rules | `(tactic| walk_at "zc") => `(tactic| exact cl_lenStr (by show _ ≤ 16777216; omega))
local macro_rules | `(tactic| walk_at "zo") => `(tactic| first | exact o_eqS | exact o_neS)
section
variable {P : Program} {w : World} {K : PySem.W.Frag} {mg : Str → Option Value} {base : Heap}
theorem ok_law_read (T : Tx K mg) : FnOk P w K mg base (L2.CX P w) 3 T.f_law_read T.fd_law_read ["text"] (sp_law_read T) := by
  refine T.F_law_read.okX sc_law_read (SpA.len fun _ => rfl) (fun cdv A outer s H vs Q E hr h => ⟨_, (pss_cons (ps_set (i := 1) sc_law_read.nd rfl (by first | exact Or.inl rfl | exact Or.inr rfl) (pe_split (pv 0) pe_str))
      (pss_cons (ps_set (i := 2) sc_law_read.nd rfl (by first | exact Or.inl rfl | exact Or.inr rfl) (pe_op op_sub (pe_callB (kcall_len K) (by rfl) T.z_len PySem.boot_len (pa_cons (pv 1) pa_nil)) pe_int))
      (pss_cons (ps_set (i := 3) sc_law_read.nd rfl (by first | exact Or.inl rfl | exact Or.inr rfl) pe_int)
      (pss_cons (ps_set (i := 4) sc_law_read.nd rfl (by first | exact Or.inl rfl | exact Or.inr rfl) (pe_lst pa_nil))
      (pss_cons (ps_for (passes_of rfl) rfl (pi_range1 (by rfl) T.z_range (pa_cons (pe_callB (kcall_len K) (by rfl) T.z_len PySem.boot_len (pa_cons (pv 1) pa_nil)) pa_nil)) (pg_name (i := 5) sc_law_read.nd rfl (by first | exact Or.inl rfl | exact Or.inr rfl))
        (pss_cons (ps_if (PW.pt (pw_and (pt_cmpR op_eq (pv 5) (pv 2) (nomark _)) (pw_and1 (PW.pt (pw_or (pt_cmpR op_ne (pe_ix (kix_list K) (pv 1) (pv 5) (fun _ _ => rfl)) pe_str (nomark _)) (pw_or1 (pt_cmpR op_eq (pv 5) pe_int (nomark _))))))))
        (pss_one (ps_ret (pe_tup (pa_cons pe_str (pa_cons (pv 5) pa_nil)))))
        pss_nil)
      (pss_one (ps_if (pt_cmpR op_lt (pv 5) (pv 2) (nomark _))
        (pss_cons (ps_set (i := 6) sc_law_read.nd rfl (by first | exact Or.inl rfl | exact Or.inr rfl) (pe_call (ok_law_row T) (hr.mono (by decide)) (by rfl) T.g_law_row T.F_law_row.kp T.b_law_row .nil (passes_call (takes_of rfl rfl rfl rfl) fun _ _ _ _ z => z) (pa_cons (pe_ix (kix_list K) (pv 1) (pv 5) (fun _ _ => rfl)) (pa_cons (pe_ix (kix_list K) (pe_lst (pa_cons pe_str (pa_cons pe_str pa_nil))) (pe_callTy call_int1 (by rfl) T.z_int (by decide +kernel) (pa_cons (pe_cmpR op_eq (pv 5) pe_int (nomark _)) pa_nil)) (fun _ _ => rfl)) (pa_cons (pe_ix (kix_list K) (pe_lst (pa_cons pe_int (pa_cons pe_int pa_nil))) (pe_callTy call_int1 (by rfl) T.z_int (by decide +kernel) (pa_cons (pe_cmpR op_eq (pv 5) pe_int (nomark _)) pa_nil)) (fun _ _ => rfl)) pa_nil)))))
      (pss_cons (ps_if (pt_cmpR op_isN (pv 6) pe_non (nomark _))
        (pss_one (ps_ret (pe_tup (pa_cons pe_str (pa_cons (pv 5) pa_nil)))))
        pss_nil)
      (pss_one (ps_if (pt_cmpR op_eq (pv 5) pe_int (nomark _))
        (pss_cons (ps_set (i := 3) sc_law_read.nd rfl (by first | exact Or.inl rfl | exact Or.inr rfl) (pe_ix (kix_list K) (pv 6) pe_int (fun _ _ => rfl)))
      (pss_one (ps_if (pt_not (pt_chain op_le op_le pe_int (pv 3) pe_int))
        (pss_one (ps_ret (pe_tup (pa_cons pe_str (pa_cons pe_int pa_nil)))))
        pss_nil)))
        (pss_cons (ps_if (PW.pt (pw_or (pt_cmpR op_ge (pe_ix (kix_list K) (pv 6) pe_int (fun _ _ => rfl)) (pv 3) (nomark _)) (pw_or (pt_cmpR op_ge (pe_ix (kix_list K) (pv 6) pe_int (fun _ _ => rfl)) (pv 3) (nomark _)) (pw_or1 (pt_cmpR op_eq (pe_ix (kix_list K) (pv 6) pe_int (fun _ _ => rfl)) (pe_ix (kix_list K) (pv 6) pe_int (fun _ _ => rfl)) (nomark _))))))
        (pss_one (ps_ret (pe_tup (pa_cons pe_str (pa_cons (pv 5) pa_nil)))))
        pss_nil)
      (pss_cons (ps_if (pt_cmpR op_gt (pe_ix (kix_list K) (pv 6) pe_int (fun _ _ => rfl)) pe_int (nomark _))
        (pss_one (ps_ret (pe_tup (pa_cons pe_str (pa_cons (pv 5) pa_nil)))))
        pss_nil)
      (pss_cons (ps_if (pt_cmpR op_eq (pe_callB (kcall_len K) (by rfl) T.z_len PySem.boot_len (pa_cons (pv 4) pa_nil)) pe_int (nomark _))
        (pss_one (ps_ret (pe_tup (pa_cons pe_str (pa_cons (pv 5) pa_nil)))))
        pss_nil)
      (pss_one (ps_expr (pe_bm PySem.F.plainAttrs_list PySem.F.slot_list_append PySem.F.type_list_append mt_append (pv 4) (pa_cons (pe_callTy (kcall_tuple K) (by rfl) T.z_tuple (by decide +kernel) (pa_cons (pv 6) pa_nil)) pa_nil)))))))))))
        pss_nil))))
      (pss_one (ps_ret (pe_tup (pa_cons (pv 3) (pa_cons (pv 4) pa_nil)))))))))), ?_⟩)
  refine SpA.go h N_law_read 1 (fun _ => rfl) ?_
  intro t hl
  have hl : t.length ≤ 50000 := hl
  have hne := split_ne t (s := 10) (by decide)
  have hwl : ∀ w ∈ Txt.split t (sepS 10), w.length ≤ 50000 := fun w hw => Nat.le_trans (word_le (by decide) hw) hl
  have hcnt : (Txt.split t (sepS 10)).length ≤ 100000 := Nat.le_trans (PyProof.Rows.split_le _ _) (by omega)
  have hT : readT t = readL (Txt.split t (sepS 10)) := rfl
  obtain ⟨ls, hls⟩ : ∃ ls, ls = Txt.split t (sepS 10) := ⟨_, rfl⟩
  rw [← hls] at hne hwl hT hcnt
  have hpos : 1 ≤ ls.length := List.length_pos_iff.mpr hne
  obtain ⟨last, hlast⟩ : ∃ z : Int, z = (ls.length : Int) - 1 := ⟨_, rfl⟩
  let Eρ : Int × List E3 → List Sl := fun s => [.b (pu (dat (.str t))), .p (dat (.list (ls.map .str))), .p (dI last), .p (dI s.1), .o (oL (s.2.map eE)), .x, .x]
  have hsp : EvN (tM1 rSplit (tVar 0) (tC (.str (PySem.Str.ofString "\n")))) [.b (pu (dat (.str t))), .x, .x, .x, .x, .x, .x] (ls.map .str) := EvN.is (en_split (ev_b rfl) ev_str (by decide) (by show _ ≤ 16777216; omega)) (by rw [nl_eq, ← hls])
  have hi : EvI K (iRng1 (tCons (tCB (cLen K) (tCons (tVar 1) tNil)) tNil)) (Eρ (0, [])) (ls.zipIdx.map fun p : Str × Nat => .int (p.2 : Int)) := by
    have e2 : ls.zipIdx.map (fun p : Str × Nat => PyData.int (p.2 : Int)) = (List.range ls.length).map fun (k : Nat) => .int (k : Int) := by
      rw [List.range_eq_range', ← List.zipIdx_map_snd 0 ls, List.map_map]; rfl
    rw [e2]
    have e3 := ei_rangeT (K := K) (ρ := Eρ (0, [])) (n := ((ls.map PyData.str).length : Int)) (tr := tCons (tCB (cLen K) (tCons (tVar 1) tNil)) tNil) (ea_cons (ev_cb (ea_cons (ev_var rfl) ea_nil) cl_lenP) ea_nil) (by omega) (by rw [List.length_map]; omega)
    rw [List.length_map, Int.toNat_natCast] at e3
    exact e3
  refine ⟨.ok (dat (toldD (readT t))), Eρ (0, []), rfl, ?_⟩
  refine Ex.seq (Ex.setN (i := 1) hsp (by show 1 < 7; decide)) (Ex.freeze 1 rfl ?_)
  refine Ex.seq (Ex.set (i := 2) (R := dI last) (Ev.is (by walk_at "ze") (by rw [hlast, List.length_map]))) ?_
  refine Ex.seq (Ex.set (i := 3) (R := dI 0) ev_int) ?_
  refine Ex.seq (Ex.setN (i := 4) (ds := []) (by walk_at "zn") (by show 4 < 7; decide)) ?_
  refine Ex.of (ρ' := Eρ (0, [])) rfl ?_
  cases hR : readT t with
  | inl kd =>
    refine Ex.seqE (o := .rt (dat (toldD (.inl kd)))) (Ex.is (Ex.forF (K := K) (W := WofE E) (S := Int × List E3) (xs := ls.zipIdx) (en := fun p : Str × Nat => .int (p.2 : Int)) (T := []) (s0 := ((0 : Int), [])) Eρ (readF (ls.length - 1)) hi (Wk.refl _) (fun pre p post s e rr => ⟨fun o ho => readF_leaves ho, [5], Eρ s |>.set 5 (.p (dI (p.2 : Int))), eg_name, by
      obtain ⟨l, k⟩ := p
      have hat := List.mk_mem_zipIdx_iff_getElem?.mp (show (l, k) ∈ ls.zipIdx by rw [e]; simp)
      have hkl : k < ls.length := (List.getElem?_eq_some_iff.mp hat).1
      have hlm : l ∈ ls := List.mem_of_getElem? hat
      have hll : l.length ≤ 50000 := hwl l hlm
      have hai : atI (ls.map PyData.str) (k : Int) = some (.str l) := atI_map (en := PyData.str) (Int.natCast_nonneg k) (by rw [Int.toNat_natCast]; exact hat)
      have hsl : s.2.length ≤ 200 := readF_len _ pre rr (by decide)
      refine Ex.of (ρ' := [.b (pu (dat (.str t))), .p (dat (.list (ls.map .str))), .p (dI last), .p (dI s.1), .o (oL (s.2.map eE)), .p (dI (k : Int)), .x]) rfl ?_
      have wrow : ∀ {W : WX} {u : TS} {ρ : List Sl}, Ex W u ρ (.nx ρ) → True := fun _ => trivial
      have t1 : EvT (tAnd (tTest (tOp rEq (tVar 5) (tVar 2))) (tOr (tTest (tOp rNe (tOp (rIxL K) (tVar 1) (tVar 5)) (tC (V.str (PySem.Str.ofString ""))))) (tTest (tOp rEq (tVar 5) (tC (V.int 0)))))) [.b (pu (dat (.str t))), .p (dat (.list (ls.map .str))), .p (dI last), .p (dI s.1), .o (oL (s.2.map eE)), .p (dI (k : Int)), .x] (decide (k = ls.length - 1) && ((!decide (l = Str.empty)) || decide (k = 0))) := by
        refine EvT.is (et_and (et_test (ev_op (ev_var rfl) (ev_var rfl) o_eqI)) (fun _ => et_or (et_test (ev_op (ev_op (ev_var rfl) (ev_var rfl) (Op2.l (o_ixL hai))) ev_str o_neS)) (fun _ => et_test (ev_op (ev_var rfl) ev_int o_eqI)))) ?_
        have g1 : decide ((k : Int) = last) = decide (k = ls.length - 1) := by rw [Bool.eq_iff_iff]; simp; omega
        have g2 : decide ((k : Int) = 0) = decide (k = 0) := by rw [Bool.eq_iff_iff]; simp
        rw [g1, g2, empty_eq]
      by_cases c1 : k = ls.length - 1
      · rw [readF_last c1]
        by_cases c2 : l ≠ Str.empty ∨ k = 0
        · rw [if_pos c2]
          refine Ex.ite t1 (fun _ => Ex.seqE (Ex.is (Ex.ret (by walk_at "ze")) (by rfl)) rfl) (fun z => ?_)
          rw [decide_eq_true c1, Bool.true_and] at z
          rcases c2 with c2 | c2
          · rw [decide_eq_false c2] at z; cases z
          · rw [decide_eq_true c2, Bool.or_true] at z; cases z
        · rw [if_neg c2]
          refine Ex.ite t1 (fun z => ?_) (fun _ => Ex.skip ?_)
          · rw [decide_eq_true c1, Bool.true_and, Bool.or_eq_true] at z
            exact absurd (z.elim (fun z => Or.inl (by simpa using z)) (fun z => Or.inr (by simpa using z))) c2
          · exact Ex.ife (b := decide ((k : Int) < last)) (by walk_at "zt") (fun z => by have := of_decide_eq_true z; omega) (fun _ => Ex.go (Ex.out (.k (.k (.k (.k (.k (.x (.x .nil))))))) Ex.next))
      · refine Ex.ite t1 (fun z => by rw [decide_eq_false c1] at z; cases z) (fun _ => Ex.skip ?_)
        refine Ex.ife (b := decide ((k : Int) < last)) (by walk_at "zt") (fun _ => ?_) (fun z => by have := of_decide_eq_false z; omega)
        by_cases c3 : k = 0
        · subst c3
          have hp0 : pre = [] := List.length_eq_zero_iff.mp (zip_pos e).symm
          have hs0 : s = ((0 : Int), ([] : List E3)) := by
            rw [hp0] at rr
            exact (Sum.inl.inj rr).symm
          subst hs0
          rw [readF_zero c1]
          refine Ex.seq (Ex.set (i := 6) (R := dat (rowD (rowOf headW 1 l))) (c_law_row (many := 1) hll (by decide) (ev_op (ev_var rfl) (ev_var rfl) (Op2.l (o_ixL hai))) (ev_op (EvN.ev (by walk_at "zn")) (ev_cb (ea_cons (ev_op (ev_var rfl) ev_int o_eqI) ea_nil) cl_intB) (Op2.l (o_ixL (by rfl)))) (ev_op (EvN.ev (by walk_at "zn")) (ev_cb (ea_cons (ev_op (ev_var rfl) ev_int o_eqI) ea_nil) cl_intB) (Op2.l (o_ixL (by rfl)))))) ?_
          cases hr : rowOf headW 1 l with
          | none =>
            exact Ex.ite (b := true) (et_test (ev_op (ev_var rfl) ev_non o_isN)) (fun _ => Ex.seqE (Ex.is (Ex.ret (by walk_at "ze")) (by rfl)) rfl) (fun z => by cases z)
          | some ns =>
            obtain ⟨hl, _⟩ := row_back hr
            match ns, hl, hr with
            | [m], _, hr =>
              refine Ex.ite (b := false) (et_test (ev_op (ev_var rfl) ev_non o_isN)) (fun z => by cases z) (fun _ => Ex.skip ?_)
              refine Ex.ife (b := true) (EvT.is (et_test (ev_op (ev_var rfl) ev_int o_eqI)) (by rfl)) (fun _ => ?_) (fun z => by cases z)
              refine Ex.seq (Ex.set (i := 3) (R := dI m) (ev_op (ev_var (R := dat (.list ([m].map .int))) rfl) ev_int (Op2.l (o_ixL (atI_map (en := PyData.int) (xs := [m]) (by decide) (by rfl)))))) ?_
              by_cases c4 : isSize m = true
              · simp only [if_pos c4]
                exact Ex.ife (b := !(isSize m)) (EvT.is (by walk_at "zt") (by rfl)) (fun z => by rw [c4] at z; cases z) (fun _ => Ex.go (Ex.out (.k (.k (.k (.k (.k (.x (.x .nil))))))) Ex.next))
              · simp only [if_neg c4]
                exact Ex.ife (b := !(isSize m)) (EvT.is (by walk_at "zt") (by rfl)) (fun _ => Ex.is (Ex.ret (by walk_at "ze")) (by rfl)) (fun z => absurd (by simpa using z) c4)
        · rw [readF_edge c1 c3]
          have hk0 : decide ((k : Int) = 0) = false := decide_eq_false (by omega)
          refine Ex.seq (Ex.set (i := 6) (R := dat (rowD (rowOf edgeW 3 l))) (c_law_row (many := 3) hll (by decide) (ev_op (ev_var rfl) (ev_var rfl) (Op2.l (o_ixL hai))) (ev_op (EvN.ev (by walk_at "zn")) (ev_cb (ea_cons (ev_op (ev_var rfl) ev_int o_eqI) ea_nil) cl_intB) (Op2.l (o_ixL (by rw [hk0]; rfl)))) (ev_op (EvN.ev (by walk_at "zn")) (ev_cb (ea_cons (ev_op (ev_var rfl) ev_int o_eqI) ea_nil) cl_intB) (Op2.l (o_ixL (by rw [hk0]; rfl)))))) ?_
          rcases kind_edge (n := s.1) (l := l) with ⟨h1, h2⟩ | ⟨u, v, p, h1, h2⟩
          · rw [h1, h2]
            exact Ex.ite (b := true) (et_test (ev_op (ev_var rfl) ev_non o_isN)) (fun _ => Ex.seqE (Ex.is (Ex.ret (by walk_at "ze")) (by rfl)) rfl) (fun z => by cases z)
          · obtain ⟨_, hnn, _⟩ := row_back h1
            have hu : 0 ≤ u := hnn u (by simp)
            have hv : 0 ≤ v := hnn v (by simp)
            have hpp : 0 ≤ p := hnn p (by simp)
            rw [h1, h2]
            have i0 : atI [PyData.int u, .int v, .int p] 0 = some (.int u) := atI_map (en := PyData.int) (xs := [u, v, p]) (by decide) (by rfl)
            have i1 : atI [PyData.int u, .int v, .int p] 1 = some (.int v) := atI_map (en := PyData.int) (xs := [u, v, p]) (by decide) (by rfl)
            have i2 : atI [PyData.int u, .int v, .int p] 2 = some (.int p) := atI_map (en := PyData.int) (xs := [u, v, p]) (by decide) (by rfl)
            refine Ex.of (ρ' := [.b (pu (dat (.str t))), .p (dat (.list (ls.map .str))), .p (dI last), .p (dI s.1), .o (oL (s.2.map eE)), .p (dI (k : Int)), .p (dat (.list [.int u, .int v, .int p]))]) rfl ?_
            refine Ex.ite (b := false) (et_test (ev_op (ev_var rfl) ev_non o_isN)) (fun z => by cases z) (fun _ => Ex.skip ?_)
            refine Ex.ife (b := decide ((k : Int) = 0)) (et_test (ev_op (ev_var rfl) ev_int o_eqI)) (fun z => by rw [hk0] at z; cases z) (fun _ => ?_)
            have te := EvT.is (et_or (et_test (ev_op (ev_op (ev_var (ρ := [.b (pu (dat (.str t))), .p (dat (.list (ls.map .str))), .p (dI last), .p (dI s.1), .o (oL (s.2.map eE)), .p (dI (k : Int)), .p (dat (.list [.int u, .int v, .int p]))]) (i := 6) rfl) ev_int (Op2.l (o_ixL (K := K) i0))) (ev_var (i := 3) rfl) (o_bool0 (g := fun i j => decide (j ≤ i))))) (fun _ => et_or (et_test (ev_op (ev_op (ev_var (i := 6) rfl) ev_int (Op2.l (o_ixL (K := K) i1))) (ev_var (i := 3) rfl) (o_bool0 (g := fun i j => decide (j ≤ i))))) (fun _ => et_test (ev_op (ev_op (ev_var (i := 6) rfl) ev_int (Op2.l (o_ixL (K := K) i0))) (ev_op (ev_var (i := 6) rfl) ev_int (Op2.l (o_ixL (K := K) i1))) o_eqI)))) (ends_law (n := s.1) hu hv)
            by_cases c5 : isEnds s.1 u v = true
            · simp only [if_pos c5]
              refine Ex.ite te (fun z => by rw [c5] at z; cases z) (fun _ => Ex.skip ?_)
              by_cases c6 : isPrice p = true
              · simp only [if_pos c6]
                refine Ex.ite (EvT.is (et_test (ev_op (ev_op (ev_var rfl) ev_int (Op2.l (o_ixL i2))) ev_int o_bool0)) (price_law hpp)) (fun z => by rw [c6] at z; cases z) (fun _ => Ex.skip ?_)
                by_cases c7 : s.2.length = 200
                · simp only [if_pos c7]
                  refine Ex.ite (b := decide ((((s.2.map eE).length : Nat) : Int) = 200)) (et_test (ev_op (ev_cb (ea_cons (ev_o rfl) ea_nil) cl_len) ev_int o_eqI)) (fun _ => Ex.seqE (Ex.is (Ex.ret (by walk_at "ze")) (by rfl)) rfl) (fun z => ?_)
                  have := of_decide_eq_false z
                  rw [List.length_map, c7] at this
                  exact absurd rfl this
                · simp only [if_neg c7]
                  refine Ex.ite (b := decide ((((s.2.map eE).length : Nat) : Int) = 200)) (et_test (ev_op (ev_cb (ea_cons (ev_o rfl) ea_nil) cl_len) ev_int o_eqI)) (fun z => ?_) (fun _ => Ex.skip ?_)
                  · have := of_decide_eq_true z
                    rw [List.length_map] at this
                    exact absurd (by omega) c7
                  · refine Ex.go (Ex.out (ρ' := [.b (pu (dat (.str t))), .p (dat (.list (ls.map .str))), .p (dI last), .p (dI s.1), .o (oL ((s.2 ++ [(u, v, p)]).map eE)), .p (dI (k : Int)), .p (dat (.list [.int u, .int v, .int p]))]) (.k (.k (.k (.k (.k (.x (.x .nil))))))) ?_)
                    exact Ex.is (Ex.append (i := 4) (ds := s.2.map eE) (d := eE (u, v, p)) rfl (ev_tupOf (ds := [.int u, .int v, .int p]) (Ev.bl (ev_var rfl))) (by rw [List.length_map]; omega) rfl) (by rw [List.map_append]; rfl)
              · simp only [if_neg c6]
                exact Ex.ite (EvT.is (et_test (ev_op (ev_op (ev_var rfl) ev_int (Op2.l (o_ixL i2))) ev_int o_bool0)) (price_law hpp)) (fun _ => Ex.seqE (Ex.is (Ex.ret (by walk_at "ze")) (by rfl)) rfl) (fun z => absurd (by simpa using z) c6)
            · simp only [if_neg c5]
              exact Ex.ite te (fun _ => Ex.seqE (Ex.is (Ex.ret (by walk_at "ze")) (by rfl)) rfl) (fun z => absurd (by simpa using z) c5)⟩)) ?_) rfl
    rw [readF_all hne, ← hT, hR]
    rfl
  | inr x =>
    refine Ex.seq (ρ1 := Eρ x) (Ex.is (Ex.forF (K := K) (W := WofE E) (S := Int × List E3) (xs := ls.zipIdx) (en := fun p : Str × Nat => .int (p.2 : Int)) (T := []) (s0 := ((0 : Int), [])) Eρ (readF (ls.length - 1)) hi (Wk.refl _) (fun pre p post s e rr => ⟨fun o ho => readF_leaves ho, [5], Eρ s |>.set 5 (.p (dI (p.2 : Int))), eg_name, by
      obtain ⟨l, k⟩ := p
      have hat := List.mk_mem_zipIdx_iff_getElem?.mp (show (l, k) ∈ ls.zipIdx by rw [e]; simp)
      have hkl : k < ls.length := (List.getElem?_eq_some_iff.mp hat).1
      have hlm : l ∈ ls := List.mem_of_getElem? hat
      have hll : l.length ≤ 50000 := hwl l hlm
      have hai : atI (ls.map PyData.str) (k : Int) = some (.str l) := atI_map (en := PyData.str) (Int.natCast_nonneg k) (by rw [Int.toNat_natCast]; exact hat)
      have hsl : s.2.length ≤ 200 := readF_len _ pre rr (by decide)
      refine Ex.of (ρ' := [.b (pu (dat (.str t))), .p (dat (.list (ls.map .str))), .p (dI last), .p (dI s.1), .o (oL (s.2.map eE)), .p (dI (k : Int)), .x]) rfl ?_
      have wrow : ∀ {W : WX} {u : TS} {ρ : List Sl}, Ex W u ρ (.nx ρ) → True := fun _ => trivial
      have t1 : EvT (tAnd (tTest (tOp rEq (tVar 5) (tVar 2))) (tOr (tTest (tOp rNe (tOp (rIxL K) (tVar 1) (tVar 5)) (tC (V.str (PySem.Str.ofString ""))))) (tTest (tOp rEq (tVar 5) (tC (V.int 0)))))) [.b (pu (dat (.str t))), .p (dat (.list (ls.map .str))), .p (dI last), .p (dI s.1), .o (oL (s.2.map eE)), .p (dI (k : Int)), .x] (decide (k = ls.length - 1) && ((!decide (l = Str.empty)) || decide (k = 0))) := by
        refine EvT.is (et_and (et_test (ev_op (ev_var rfl) (ev_var rfl) o_eqI)) (fun _ => et_or (et_test (ev_op (ev_op (ev_var rfl) (ev_var rfl) (Op2.l (o_ixL hai))) ev_str o_neS)) (fun _ => et_test (ev_op (ev_var rfl) ev_int o_eqI)))) ?_
        have g1 : decide ((k : Int) = last) = decide (k = ls.length - 1) := by rw [Bool.eq_iff_iff]; simp; omega
        have g2 : decide ((k : Int) = 0) = decide (k = 0) := by rw [Bool.eq_iff_iff]; simp
        rw [g1, g2, empty_eq]
      by_cases c1 : k = ls.length - 1
      · rw [readF_last c1]
        by_cases c2 : l ≠ Str.empty ∨ k = 0
        · rw [if_pos c2]
          refine Ex.ite t1 (fun _ => Ex.seqE (Ex.is (Ex.ret (by walk_at "ze")) (by rfl)) rfl) (fun z => ?_)
          rw [decide_eq_true c1, Bool.true_and] at z
          rcases c2 with c2 | c2
          · rw [decide_eq_false c2] at z; cases z
          · rw [decide_eq_true c2, Bool.or_true] at z; cases z
        · rw [if_neg c2]
          refine Ex.ite t1 (fun z => ?_) (fun _ => Ex.skip ?_)
          · rw [decide_eq_true c1, Bool.true_and, Bool.or_eq_true] at z
            exact absurd (z.elim (fun z => Or.inl (by simpa using z)) (fun z => Or.inr (by simpa using z))) c2
          · exact Ex.ife (b := decide ((k : Int) < last)) (by walk_at "zt") (fun z => by have := of_decide_eq_true z; omega) (fun _ => Ex.go (Ex.out (.k (.k (.k (.k (.k (.x (.x .nil))))))) Ex.next))
      · refine Ex.ite t1 (fun z => by rw [decide_eq_false c1] at z; cases z) (fun _ => Ex.skip ?_)
        refine Ex.ife (b := decide ((k : Int) < last)) (by walk_at "zt") (fun _ => ?_) (fun z => by have := of_decide_eq_false z; omega)
        by_cases c3 : k = 0
        · subst c3
          have hp0 : pre = [] := List.length_eq_zero_iff.mp (zip_pos e).symm
          have hs0 : s = ((0 : Int), ([] : List E3)) := by
            rw [hp0] at rr
            exact (Sum.inl.inj rr).symm
          subst hs0
          rw [readF_zero c1]
          refine Ex.seq (Ex.set (i := 6) (R := dat (rowD (rowOf headW 1 l))) (c_law_row (many := 1) hll (by decide) (ev_op (ev_var rfl) (ev_var rfl) (Op2.l (o_ixL hai))) (ev_op (EvN.ev (by walk_at "zn")) (ev_cb (ea_cons (ev_op (ev_var rfl) ev_int o_eqI) ea_nil) cl_intB) (Op2.l (o_ixL (by rfl)))) (ev_op (EvN.ev (by walk_at "zn")) (ev_cb (ea_cons (ev_op (ev_var rfl) ev_int o_eqI) ea_nil) cl_intB) (Op2.l (o_ixL (by rfl)))))) ?_
          cases hr : rowOf headW 1 l with
          | none =>
            exact Ex.ite (b := true) (et_test (ev_op (ev_var rfl) ev_non o_isN)) (fun _ => Ex.seqE (Ex.is (Ex.ret (by walk_at "ze")) (by rfl)) rfl) (fun z => by cases z)
          | some ns =>
            obtain ⟨hl, _⟩ := row_back hr
            match ns, hl, hr with
            | [m], _, hr =>
              refine Ex.ite (b := false) (et_test (ev_op (ev_var rfl) ev_non o_isN)) (fun z => by cases z) (fun _ => Ex.skip ?_)
              refine Ex.ife (b := true) (EvT.is (et_test (ev_op (ev_var rfl) ev_int o_eqI)) (by rfl)) (fun _ => ?_) (fun z => by cases z)
              refine Ex.seq (Ex.set (i := 3) (R := dI m) (ev_op (ev_var (R := dat (.list ([m].map .int))) rfl) ev_int (Op2.l (o_ixL (atI_map (en := PyData.int) (xs := [m]) (by decide) (by rfl)))))) ?_
              by_cases c4 : isSize m = true
              · simp only [if_pos c4]
                exact Ex.ife (b := !(isSize m)) (EvT.is (by walk_at "zt") (by rfl)) (fun z => by rw [c4] at z; cases z) (fun _ => Ex.go (Ex.out (.k (.k (.k (.k (.k (.x (.x .nil))))))) Ex.next))
              · simp only [if_neg c4]
                exact Ex.ife (b := !(isSize m)) (EvT.is (by walk_at "zt") (by rfl)) (fun _ => Ex.is (Ex.ret (by walk_at "ze")) (by rfl)) (fun z => absurd (by simpa using z) c4)
        · rw [readF_edge c1 c3]
          have hk0 : decide ((k : Int) = 0) = false := decide_eq_false (by omega)
          refine Ex.seq (Ex.set (i := 6) (R := dat (rowD (rowOf edgeW 3 l))) (c_law_row (many := 3) hll (by decide) (ev_op (ev_var rfl) (ev_var rfl) (Op2.l (o_ixL hai))) (ev_op (EvN.ev (by walk_at "zn")) (ev_cb (ea_cons (ev_op (ev_var rfl) ev_int o_eqI) ea_nil) cl_intB) (Op2.l (o_ixL (by rw [hk0]; rfl)))) (ev_op (EvN.ev (by walk_at "zn")) (ev_cb (ea_cons (ev_op (ev_var rfl) ev_int o_eqI) ea_nil) cl_intB) (Op2.l (o_ixL (by rw [hk0]; rfl)))))) ?_
          rcases kind_edge (n := s.1) (l := l) with ⟨h1, h2⟩ | ⟨u, v, p, h1, h2⟩
          · rw [h1, h2]
            exact Ex.ite (b := true) (et_test (ev_op (ev_var rfl) ev_non o_isN)) (fun _ => Ex.seqE (Ex.is (Ex.ret (by walk_at "ze")) (by rfl)) rfl) (fun z => by cases z)
          · obtain ⟨_, hnn, _⟩ := row_back h1
            have hu : 0 ≤ u := hnn u (by simp)
            have hv : 0 ≤ v := hnn v (by simp)
            have hpp : 0 ≤ p := hnn p (by simp)
            rw [h1, h2]
            have i0 : atI [PyData.int u, .int v, .int p] 0 = some (.int u) := atI_map (en := PyData.int) (xs := [u, v, p]) (by decide) (by rfl)
            have i1 : atI [PyData.int u, .int v, .int p] 1 = some (.int v) := atI_map (en := PyData.int) (xs := [u, v, p]) (by decide) (by rfl)
            have i2 : atI [PyData.int u, .int v, .int p] 2 = some (.int p) := atI_map (en := PyData.int) (xs := [u, v, p]) (by decide) (by rfl)
            refine Ex.of (ρ' := [.b (pu (dat (.str t))), .p (dat (.list (ls.map .str))), .p (dI last), .p (dI s.1), .o (oL (s.2.map eE)), .p (dI (k : Int)), .p (dat (.list [.int u, .int v, .int p]))]) rfl ?_
            refine Ex.ite (b := false) (et_test (ev_op (ev_var rfl) ev_non o_isN)) (fun z => by cases z) (fun _ => Ex.skip ?_)
            refine Ex.ife (b := decide ((k : Int) = 0)) (et_test (ev_op (ev_var rfl) ev_int o_eqI)) (fun z => by rw [hk0] at z; cases z) (fun _ => ?_)
            have te := EvT.is (et_or (et_test (ev_op (ev_op (ev_var (ρ := [.b (pu (dat (.str t))), .p (dat (.list (ls.map .str))), .p (dI last), .p (dI s.1), .o (oL (s.2.map eE)), .p (dI (k : Int)), .p (dat (.list [.int u, .int v, .int p]))]) (i := 6) rfl) ev_int (Op2.l (o_ixL (K := K) i0))) (ev_var (i := 3) rfl) (o_bool0 (g := fun i j => decide (j ≤ i))))) (fun _ => et_or (et_test (ev_op (ev_op (ev_var (i := 6) rfl) ev_int (Op2.l (o_ixL (K := K) i1))) (ev_var (i := 3) rfl) (o_bool0 (g := fun i j => decide (j ≤ i))))) (fun _ => et_test (ev_op (ev_op (ev_var (i := 6) rfl) ev_int (Op2.l (o_ixL (K := K) i0))) (ev_op (ev_var (i := 6) rfl) ev_int (Op2.l (o_ixL (K := K) i1))) o_eqI)))) (ends_law (n := s.1) hu hv)
            by_cases c5 : isEnds s.1 u v = true
            · simp only [if_pos c5]
              refine Ex.ite te (fun z => by rw [c5] at z; cases z) (fun _ => Ex.skip ?_)
              by_cases c6 : isPrice p = true
              · simp only [if_pos c6]
                refine Ex.ite (EvT.is (et_test (ev_op (ev_op (ev_var rfl) ev_int (Op2.l (o_ixL i2))) ev_int o_bool0)) (price_law hpp)) (fun z => by rw [c6] at z; cases z) (fun _ => Ex.skip ?_)
                by_cases c7 : s.2.length = 200
                · simp only [if_pos c7]
                  refine Ex.ite (b := decide ((((s.2.map eE).length : Nat) : Int) = 200)) (et_test (ev_op (ev_cb (ea_cons (ev_o rfl) ea_nil) cl_len) ev_int o_eqI)) (fun _ => Ex.seqE (Ex.is (Ex.ret (by walk_at "ze")) (by rfl)) rfl) (fun z => ?_)
                  have := of_decide_eq_false z
                  rw [List.length_map, c7] at this
                  exact absurd rfl this
                · simp only [if_neg c7]
                  refine Ex.ite (b := decide ((((s.2.map eE).length : Nat) : Int) = 200)) (et_test (ev_op (ev_cb (ea_cons (ev_o rfl) ea_nil) cl_len) ev_int o_eqI)) (fun z => ?_) (fun _ => Ex.skip ?_)
                  · have := of_decide_eq_true z
                    rw [List.length_map] at this
                    exact absurd (by omega) c7
                  · refine Ex.go (Ex.out (ρ' := [.b (pu (dat (.str t))), .p (dat (.list (ls.map .str))), .p (dI last), .p (dI s.1), .o (oL ((s.2 ++ [(u, v, p)]).map eE)), .p (dI (k : Int)), .p (dat (.list [.int u, .int v, .int p]))]) (.k (.k (.k (.k (.k (.x (.x .nil))))))) ?_)
                    exact Ex.is (Ex.append (i := 4) (ds := s.2.map eE) (d := eE (u, v, p)) rfl (ev_tupOf (ds := [.int u, .int v, .int p]) (Ev.bl (ev_var rfl))) (by rw [List.length_map]; omega) rfl) (by rw [List.map_append]; rfl)
              · simp only [if_neg c6]
                exact Ex.ite (EvT.is (et_test (ev_op (ev_op (ev_var rfl) ev_int (Op2.l (o_ixL i2))) ev_int o_bool0)) (price_law hpp)) (fun _ => Ex.seqE (Ex.is (Ex.ret (by walk_at "ze")) (by rfl)) rfl) (fun z => absurd (by simpa using z) c6)
            · simp only [if_neg c5]
              exact Ex.ite te (fun _ => Ex.seqE (Ex.is (Ex.ret (by walk_at "ze")) (by rfl)) rfl) (fun z => absurd (by simpa using z) c5)⟩)) ?_) (Ex.freeze 4 rfl (Ex.is (Ex.ret (by walk_at "ze")) (by rfl)))
    rw [readF_all hne, ← hT, hR]
    rfl

end
end Q

set_option Elab.async false
set_option linter.all false
set_option maxRecDepth 100000
set_option maxHeartbeats 4000000
namespace Q
open PySem PySem.Spec PyProof.Rows L2 Z QT TL
local macro_rules | `(tactic| walk_at "zo") => `(tactic| first
  | with_reducible exact o_int0 | with_reducible exact o_bool0 | exact o_eqI | exact o_neI
  | exact o_intC (by assumption) | exact o_intC (by show (0 : Int) < _; omega) | exact o_intC ⟨by omega, by omega⟩ | exact o_intC (Or.inr ⟨by omega, by omega⟩) | exact o_intC (Or.inl ⟨by omega, by omega⟩) | exact o_intC ⟨by decide, by decide, by decide⟩
  | exact o_ixL (by assumption) | exact Op2.l (o_ixL (by assumption)) | exact o_ixT rfl | exact o_inT2 | exact o_inT | exact o_inL | exact Op2.r o_inL | exact o_notInL | exact Op2.r o_notInL | exact o_isN | exact o_notN)
local macro_rules | `(tactic| walk_at "zc") => `(tactic| first
  | exact cl_len | exact cl_lenP | exact cl_int | exact cl_abs | exact cl_min2 | exact cl_max2 | exact cl_intB | exact cl_sum | exact cl_any | exact cl_all)
local macro_rules | `(tactic| walk_at "za") => `(tactic| first
  | with_reducible exact ea_nil | with_reducible exact ed_nil
  | ((with_reducible refine' ed_cons ?z1 ?z2); (case z1 => walk_at "ze"); (case z2 => walk_at "za"))
  | ((with_reducible refine' ea_cons ?z1 ?z2); (case z1 => walk_at "ze"); (case z2 => walk_at "za")))
local macro_rules | `(tactic| walk_at "ze") => `(tactic| first
  | with_reducible assumption
  | with_reducible exact ev_int | with_reducible exact ev_bl | with_reducible exact ev_non | with_reducible exact ev_str
  | ((with_reducible refine' ev_b ?z1); (case z1 => rfl)) | ((with_reducible refine' ev_var ?z1); (case z1 => rfl)) | ((with_reducible refine' ev_o ?z1); (case z1 => rfl))
  | ((with_reducible refine' ev_op ?z1 ?z2 ?z3); (case z1 => walk_at "ze"); (case z2 => walk_at "ze"); (case z3 => walk_at "zo"))
  | ((with_reducible refine' ev_chain ?z1 ?z2 ?z3 ?z4 ?z5); (case z1 => walk_at "ze"); (case z2 => walk_at "ze"); (case z4 => walk_at "zo"); (case z3 => intro _; walk_at "ze"); (case z5 => intro _; walk_at "zo"))
  | ((with_reducible refine' ev_andV ?z1 ?z2); (case z1 => walk_at "ze"); (case z2 => intro _; walk_at "ze"))
  | ((with_reducible refine' ev_orV ?z1 ?z2); (case z1 => walk_at "ze"); (case z2 => intro _; walk_at "ze"))
  | ((with_reducible refine' ev_notV ?z1); (case z1 => walk_at "ze"))
  | ((with_reducible refine' ev_neg ?z1); (case z1 => walk_at "ze"))
  | ((with_reducible refine' ev_tupD ?z1 ?z2); (case z1 => walk_at "za"); (case z2 => exact Nat.le_of_ble_eq_true rfl))
  | ((with_reducible refine' ev_cb ?z1 ?z2); (case z1 => walk_at "za"); (case z2 => walk_at "zc"))
  | ((with_reducible refine' EvN.ev ?z1); (case z1 => walk_at "zn"))
  | walk_at "zf")
local macro_rules | `(tactic| walk_at "zb") => `(tactic| first
  | with_reducible assumption
  | ((with_reducible refine' ev_b ?z1); (case z1 => rfl)) | ((with_reducible refine' ev_o ?z1); (case z1 => rfl))
  | ((with_reducible refine' Ev.bl ?z1); (case z1 => walk_at "ze")))
local macro_rules | `(tactic| walk_at "zn") => `(tactic| first
  | with_reducible assumption
  | ((with_reducible refine' en_lstD ?z1 ?z2); (case z1 => walk_at "za"); (case z2 => exact Nat.le_of_ble_eq_true rfl))
  | ((with_reducible refine' en_cb ?z1 ?z2); (case z1 => walk_at "za"); (case z2 => first | exact cl_list | exact cl_listP)))
local macro_rules | `(tactic| walk_at "zt") => `(tactic| first
  | with_reducible assumption
  | ((with_reducible refine' et_test ?z1); (case z1 => walk_at "ze"))
  | ((with_reducible refine' et_B ?z1); (case z1 => walk_at "ze"))
  | ((with_reducible refine' et_and ?z1 ?z2); (case z1 => walk_at "zt"); (case z2 => intro _; walk_at "zt"))
  | ((with_reducible refine' et_or ?z1 ?z2); (case z1 => walk_at "zt"); (case z2 => intro _; walk_at "zt"))
  | ((with_reducible refine' et_not ?z1); (case z1 => walk_at "zt")))
local macro_rules | `(tactic| walk_at "zf") => `(tactic| first
  | ((with_reducible refine' c_is_size ?z1); (case z1 => walk_at "ze"))
  | ((with_reducible refine' c_is_price ?z1); (case z1 => walk_at "ze"))
  | ((with_reducible refine' c_are_ends ?z1 ?z2 ?z3); (case z1 => walk_at "ze"); (case z2 => walk_at "ze"); (case z3 => walk_at "ze"))
  | ((with_reducible refine' c_mix ?z0 ?z1 ?z2 ?z3); (case z1 => walk_at "zb"); (case z2 => walk_at "ze"); (case z3 => walk_at "ze"); (case z0 => first | assumption | omega | decide))
  | ((with_reducible refine' fld_size (by assumption) ?z1); (case z1 => walk_at "ze"))
  | ((with_reducible refine' fld_edges (by assumption) ?z1); (case z1 => walk_at "ze")))
local macro_rules | `(tactic| walk_at "zc") => `(tactic| exact cl_lenS)
local macro_rules | `(tactic| walk_at "zo") => `(tactic| exact o_ixS (by omega) (by assumption))
local macro_rules | `(tactic| walk_at "zf") => `(tactic| ((with_reducible refine' c_is_number ?z0 ?z1); (case z1 => walk_at "ze"); (case z0 => first | assumption | omega)))
local macro_rules | `(tactic| walk_at "ze") => `(tactic| ((with_reducible refine' ev_is0 ?z1); (case z1 => walk_at "ze")))
local macro_rules | `(tactic| walk_at "zc") => `(tactic| exact cl_lenStr (by show _ ≤ 16777216; omega))
local macro_rules | `(tactic| walk_at "zo") => `(tactic| first | exact o_eqS | exact o_neS)
section
variable {P : Program} {w : World} {K : PySem.W.Frag} {mg : Str → Option Value} {base : Heap}
theorem ok_law_told (T : Tx K mg) : FnOk P w K mg base (L2.CX P w) 6 T.f_law_told T.fd_law_told ["text"] (sp_law_told T) := by
  refine T.F_law_told.okX sc_law_told (SpA.len fun _ => rfl) (fun cdv A outer s H vs Q E hr h => ⟨_, (pss_cons (ps_try_as (i := 2) rfl rfl sc_law_told.nd rfl rfl ⟨rfl, by decide, .inl T.x_WebError.2.2.2.2⟩ (takes_of rfl rfl rfl rfl) (fun W pn xe tk hpx => (pss_one (ps_set (i := 1) sc_law_told.nd rfl (by first | exact Or.inl rfl | exact Or.inr rfl) (pe_callS (ok_read_network T) (hr.mono (by decide)) (by rfl) T.g_read_network T.F_read_network.kp T.b_read_network (fun σ => passAt tk σ) (pa_cons (pv 0) pa_nil)))))
        (fun a oe cls d pn hz hf => (pss_cons (ps_set (i := 3) sc_law_told.nd rfl (by first | exact Or.inl rfl | exact Or.inr rfl) (pe_lst (pa_cons (pe_callB (call_isX hz hf) (by rfl) T.z_isinstance (by decide +kernel) (pa_cons (pv 2) (pa_cons (pe_glob (v := .ref T.c_BadLine) (by rfl) T.x_BadLine.2.2.2.2 rfl) pa_nil))) (pa_cons (pe_callB (call_isX hz hf) (by rfl) T.z_isinstance (by decide +kernel) (pa_cons (pv 2) (pa_cons (pe_glob (v := .ref T.c_BadVertex) (by rfl) T.x_BadVertex.2.2.2.2 rfl) pa_nil))) (pa_cons (pe_callB (call_isX hz hf) (by rfl) T.z_isinstance (by decide +kernel) (pa_cons (pv 2) (pa_cons (pe_glob (v := .ref T.c_BadPrice) (by rfl) T.x_BadPrice.2.2.2.2 rfl) pa_nil))) pa_nil)))))
      (pss_cons (ps_expr (kpe_bm K PySem.F.plainAttrs_list PySem.F.slot_list_append PySem.F.type_list_append mt_append (pv 3) (by exact (pa_cons (pe_callB (call_isX hz hf) (by rfl) T.z_isinstance (by decide +kernel) (pa_cons (pv 2) (pa_cons (pe_glob (v := .ref T.c_TooMany) (by rfl) T.x_TooMany.2.2.2.2 rfl) pa_nil))) pa_nil))))
      (pss_cons (ps_if (pt_cmpR op_ne (kpe_bm K PySem.F.plainAttrs_list PySem.F.slot_list_count PySem.F.type_list_count mt_countB (pv 3) (by exact (pa_cons pe_bl pa_nil))) pe_int (nomark _))
        (pss_one (ps_ret pe_non))
        pss_nil)
      (pss_one (ps_ret (pe_tup (pa_cons (pe_ix (kix_list K) (pe_lst (pa_cons pe_str (pa_cons pe_str (pa_cons pe_str (pa_cons pe_str pa_nil))))) (kpe_bm K PySem.F.plainAttrs_list PySem.F.slot_list_index PySem.F.type_list_index (kmt_index K) (pv 3) (by exact (pa_cons pe_bl pa_nil))) (fun _ _ => rfl)) (pa_cons (pe_xg hz hf (pv 2)) pa_nil))))))))))
      (pss_one (ps_ret (pe_tup (pa_cons (pe_meth0 (pv 1) T.cl_Network T.m_Network_size (ok_Network_size T) (hr.mono (by decide)) T.b_Network_size .nil (passes_call (takes_of rfl rfl rfl rfl) fun _ _ _ _ z => z)) (pa_cons (pe_meth0 (pv 1) T.cl_Network T.m_Network_edges (ok_Network_edges T) (hr.mono (by decide)) T.b_Network_edges .nil (passes_call (takes_of rfl rfl rfl rfl) fun _ _ _ _ z => z)) pa_nil)))))), ?_⟩)
  refine SpA.go h N_law_told 1 (fun _ => rfl) ?_
  intro t hl
  have hl : t.length ≤ 50000 := hl
  cases hR : readT t with
  | inr x =>
    obtain ⟨n, es⟩ := x
    refine ⟨.ok (dat (toldD (.inr (n, es)))), [], rfl, ?_⟩
    refine Ex.seq (ρ1 := [.b (pu (dat (.str t))), .p (netR T n es), .x, .x]) (Ex.try_ok (tb := fun W => tAsg (tCallS (sp_read_network T) (WE W) (tCons (tVar 0) tNil)) (gName 1)) (fun W => Ex.set (i := 1) (R := netR T n es) (ev_callS t (ea_cons (ev_b rfl) ea_nil) (show t.length ≤ 1000000 by omega) (by show readR T (readT t) = _; rw [hR]; rfl))) rfl) ?_
    exact Ex.is (Ex.ret (ev_tupD (ed_cons (m_size (ev_var rfl)) (ed_cons (EvN.ev (m_edges (ev_var rfl))) ed_nil)) (Nat.le_of_ble_eq_true rfl))) (by rfl)
  | inl ka =>
    obtain ⟨k, a⟩ := ka
    have hk := T.ek (kindT k)
    refine ⟨.ok (dat (toldD (.inl (k, a)))), [], rfl, ?_⟩
    refine Ex.seqE (o := .rt (dat (toldD (.inl (k, a))))) (Ex.try_x (tb := fun W => tAsg (tCallS (sp_read_network T) (WE W) (tCons (tVar 0) tNil)) (gName 1)) (o := .rt (dat (toldD (.inl (k, a))))) (ρ1 := [.b (pu (dat (.str t))), .x, .x, .x]) (C := T.cls (kindT k)) (n := (a : Int)) (fun W => Ex.asgX (ex_callS t (ea_cons (ev_b rfl) ea_nil) (show t.length ≤ 1000000 by omega) (by show readR T (readT t) = _; rw [hR]; rfl))) (T.emk (kindT k)) (fun b d => ?_)) rfl
    refine Ex.seq (Ex.setN (i := 3) (ds := [.bool (decide (kindT k = .bl)), .bool (decide (kindT k = .bv)), .bool (decide (kindT k = .bp))]) (en_lstD (ed_cons (ev_isX rfl hk.1 (T.isk (kindT k) .bl)) (ed_cons (ev_isX rfl hk.1 (T.isk (kindT k) .bv)) (ed_cons (ev_isX rfl hk.1 (T.isk (kindT k) .bp)) ed_nil))) (Nat.le_of_ble_eq_true rfl)) (by show 3 < 4; decide)) ?_
    refine Ex.seq (Ex.append (i := 3) (ds := [.bool (decide (kindT k = .bl)), .bool (decide (kindT k = .bv)), .bool (decide (kindT k = .bp))]) (d := .bool (decide (kindT k = .tm))) rfl (ev_isX rfl hk.1 (T.isk (kindT k) .tm)) (Nat.lt_of_le_of_lt (Nat.le_of_ble_eq_true (m := 3) rfl) (by decide)) rfl) ?_
    refine Ex.of (ρ' := [.b (pu (dat (.str t))), .x, .p (errR b d (a : Int)), .o (oL ((kinds4 (kindT k)).map .bool))]) rfl ?_
    refine Ex.ite (b := false) (EvT.is (et_test (ev_op (ev_cntB (ev_o rfl)) ev_int o_neI)) (by rw [kinds_cnt]; rfl)) (fun z => by cases z) (fun _ => Ex.skip ?_)
    exact Ex.is (Ex.ret (ev_tupD (ed_cons (ev_op (EvN.ev (by walk_at "zn")) (ev_idxB (ev_o rfl) (kinds_idx k) (kinds_first k)) (Op2.l (o_ixL (kinds_word k)))) (ed_cons (ev_at rfl hk.2.1 hk.2.2) ed_nil)) (Nat.le_of_ble_eq_true rfl))) (by rfl)

end
end Q

set_option Elab.async false
set_option linter.all false
set_option maxRecDepth 100000
set_option maxHeartbeats 4000000
namespace Q
open PySem PySem.Spec PyProof.Rows L2 Z QT TL
local macro_rules | `(tactic| walk_at "zo") => `(tactic| first
  | with_reducible exact o_int0 | with_reducible exact o_bool0 | exact o_eqI | exact o_neI
  | exact o_intC (by assumption) | exact o_intC (by show (0 : Int) < _; omega) | exact o_intC ⟨by omega, by omega⟩ | exact o_intC (Or.inr ⟨by omega, by omega⟩) | exact o_intC (Or.inl ⟨by omega, by omega⟩) | exact o_intC ⟨by decide, by decide, by decide⟩
  | exact o_ixL (by assumption) | exact Op2.l (o_ixL (by assumption)) | exact o_ixT rfl | exact o_inT2 | exact o_inT | exact o_inL | exact Op2.r o_inL | exact o_notInL | exact Op2.r o_notInL | exact o_isN | exact o_notN)
local macro_rules | `(tactic| walk_at "zc") => `(tactic| first
  | exact cl_len | exact cl_lenP | exact cl_int | exact cl_abs | exact cl_min2 | exact cl_max2 | exact cl_intB | exact cl_sum | exact cl_any | exact cl_all)
local macro_rules | `(tactic| walk_at "za") => `(tactic| first
  | with_reducible exact ea_nil | with_reducible exact ed_nil
  | ((with_reducible refine' ed_cons ?z1 ?z2); (case z1 => walk_at "ze"); (case z2 => walk_at "za"))
  | ((with_reducible refine' ea_cons ?z1 ?z2); (case z1 => walk_at "ze"); (case z2 => walk_at "za")))
local macro_rules | `(tactic| walk_at "ze") => `(tactic| first
  | with_reducible assumption
  | with_reducible exact ev_int | with_reducible exact ev_bl | with_reducible exact ev_non | with_reducible exact ev_str
  | ((with_reducible refine' ev_b ?z1); (case z1 => rfl)) | ((with_reducible refine' ev_var ?z1); (case z1 => rfl)) | ((with_reducible refine' ev_o ?z1); (case z1 => rfl))
  | ((with_reducible refine' ev_op ?z1 ?z2 ?z3); (case z1 => walk_at "ze"); (case z2 => walk_at "ze"); (case z3 => walk_at "zo"))
  | ((with_reducible refine' ev_chain ?z1 ?z2 ?z3 ?z4 ?z5); (case z1 => walk_at "ze"); (case z2 => walk_at "ze"); (case z4 => walk_at "zo"); (case z3 => intro _; walk_at "ze"); (case z5 => intro _; walk_at "zo"))
  | ((with_reducible refine' ev_andV ?z1 ?z2); (case z1 => walk_at "ze"); (case z2 => intro _; walk_at "ze"))
  | ((with_reducible refine' ev_orV ?z1 ?z2); (case z1 => walk_at "ze"); (case z2 => intro _; walk_at "ze"))
  | ((with_reducible refine' ev_notV ?z1); (case z1 => walk_at "ze"))
  | ((with_reducible refine' ev_neg ?z1); (case z1 => walk_at "ze"))
  | ((with_reducible refine' ev_tupD ?z1 ?z2); (case z1 => walk_at "za"); (case z2 => exact Nat.le_of_ble_eq_true rfl))
  | ((with_reducible refine' ev_cb ?z1 ?z2); (case z1 => walk_at "za"); (case z2 => walk_at "zc"))
  | ((with_reducible refine' EvN.ev ?z1); (case z1 => walk_at "zn"))
  | walk_at "zf")
local macro_rules | `(tactic| walk_at "zb") => `(tactic| first
  | with_reducible assumption
  | ((with_reducible refine' ev_b ?z1); (case z1 => rfl)) | ((with_reducible refine' ev_o ?z1); (case z1 => rfl))
  | ((with_reducible refine' Ev.bl ?z1); (case z1 => walk_at "ze")))
local macro_rules | `(tactic| walk_at "zn") => `(tactic| first
  | with_reducible assumption
  | ((with_reducible refine' en_lstD ?z1 ?z2); (case z1 => walk_at "za"); (case z2 => exact Nat.le_of_ble_eq_true rfl))
  | ((with_reducible refine' en_cb ?z1 ?z2); (case z1 => walk_at "za"); (case z2 => first | exact cl_list | exact cl_listP)))
local macro_rules | `(tactic| walk_at "zt") => `(tactic| first
  | with_reducible assumption
  | ((with_reducible refine' et_test ?z1); (case z1 => walk_at "ze"))
  | ((with_reducible refine' et_B ?z1); (case z1 => walk_at "ze"))
  | ((with_reducible refine' et_and ?z1 ?z2); (case z1 => walk_at "zt"); (case z2 => intro _; walk_at "zt"))
  | ((with_reducible refine' et_or ?z1 ?z2); (case z1 => walk_at "zt"); (case z2 => intro _; walk_at "zt"))
  | ((with_reducible refine' et_not ?z1); (case z1 => walk_at "zt")))
local macro_rules | `(tactic| walk_at "zf") => `(tactic| first
  | ((with_reducible refine' c_is_size ?z1); (case z1 => walk_at "ze"))
  | ((with_reducible refine' c_is_price ?z1); (case z1 => walk_at "ze"))
  | ((with_reducible refine' c_are_ends ?z1 ?z2 ?z3); (case z1 => walk_at "ze"); (case z2 => walk_at "ze"); (case z3 => walk_at "ze"))
  | ((with_reducible refine' c_mix ?z0 ?z1 ?z2 ?z3); (case z1 => walk_at "zb"); (case z2 => walk_at "ze"); (case z3 => walk_at "ze"); (case z0 => first | assumption | omega | decide))
  | ((with_reducible refine' fld_size (by assumption) ?z1); (case z1 => walk_at "ze"))
  | ((with_reducible refine' fld_edges (by assumption) ?z1); (case z1 => walk_at "ze")))
local macro_rules | `(tactic| walk_at "zc") => `(tactic| exact cl_lenS)
local macro_rules | `(tactic| walk_at "zo") => `(tactic| exact o_ixS (by omega) (by assumption))
local macro_rules | `(tactic| walk_at "zf") => `(tactic| ((with_reducible refine' c_is_number ?z0 ?z1); (case z1 => walk_at "ze"); (case z0 => first | assumption | omega)))
local macro_rules | `(tactic| walk_at "ze") => `(tactic| ((with_reducible refine' ev_is0 ?z1); (case z1 => walk_at "ze")))
local macro_rules | `(tactic| walk_at "zc") => `(tactic| exact cl_lenStr (by show _ ≤ 16777216; omega))
local macro_rules | `(tactic| walk_at "zo") => `(tactic| first | exact o_eqS | exact o_neS)
section
variable {P : Program} {w : World} {K : PySem.W.Frag} {mg : Str → Option Value} {base : Heap}
theorem ok_law_changed (T : Tx K mg) : FnOk P w K mg base (L2.CX P w) 2 T.f_law_changed T.fd_law_changed ["draws", "k", "text"] (sp_law_changed T) := by
  refine T.F_law_changed.okX sc_law_changed (SpA.len fun _ => rfl) (fun cdv A outer s H vs Q E hr h => ⟨_, (pss_cons (ps_set (i := 3) sc_law_changed.nd rfl (by first | exact Or.inl rfl | exact Or.inr rfl) (pe_call (ok_law_mix T) (hr.mono (by decide)) (by rfl) T.g_law_mix T.F_law_mix.kp T.b_law_mix .nil (passes_call (takes_of rfl rfl rfl rfl) fun _ _ _ _ z => z) (pa_cons (pv 0) (pa_cons (pv 1) (pa_cons pe_int pa_nil)))))
      (pss_cons (ps_set (i := 4) sc_law_changed.nd rfl (by first | exact Or.inl rfl | exact Or.inr rfl) (pe_call (ok_law_mix T) (hr.mono (by decide)) (by rfl) T.g_law_mix T.F_law_mix.kp T.b_law_mix .nil (passes_call (takes_of rfl rfl rfl rfl) fun _ _ _ _ z => z) (pa_cons (pv 0) (pa_cons (pe_op op_add (pv 1) pe_int) (pa_cons (pe_op op_add (pe_callB call_len_str (by rfl) T.z_len PySem.boot_len (pa_cons (pv 2) pa_nil)) pe_int) pa_nil)))))
      (pss_cons (ps_set (i := 5) sc_law_changed.nd rfl (by first | exact Or.inl rfl | exact Or.inr rfl) (pe_ix ix_str pe_str (pe_call (ok_law_mix T) (hr.mono (by decide)) (by rfl) T.g_law_mix T.F_law_mix.kp T.b_law_mix .nil (passes_call (takes_of rfl rfl rfl rfl) fun _ _ _ _ z => z) (pa_cons (pv 0) (pa_cons (pe_op op_add (pv 1) pe_int) (pa_cons pe_int pa_nil)))) (fun _ _ => rfl)))
      (pss_cons (ps_if (pt_cmpR op_eq (pv 3) pe_int (nomark _))
        (pss_one (ps_ret (pe_op op_add_str (pe_op op_add_str (pe_slice sl_str (pv 2) po_none (po_some (pv 4))) (pv 5)) (pe_slice sl_str (pv 2) (po_some (pv 4)) po_none))))
        pss_nil)
      (pss_cons (ps_if (pt_cmpR op_eq (pv 3) pe_int (nomark _))
        (pss_one (ps_ret (pe_op op_add_str (pe_slice sl_str (pv 2) po_none (po_some (pv 4))) (pe_slice sl_str (pv 2) (po_some (pe_op op_add (pv 4) pe_int)) po_none))))
        pss_nil)
      (pss_cons (ps_if (pt_cmpR op_eq (pv 3) pe_int (nomark _))
        (pss_one (ps_ret (pe_op op_add_str (pe_op op_add_str (pe_slice sl_str (pv 2) po_none (po_some (pv 4))) (pv 5)) (pe_slice sl_str (pv 2) (po_some (pe_op op_add (pv 4) pe_int)) po_none))))
        pss_nil)
      (pss_cons (ps_if (pt_cmpR op_eq (pv 3) pe_int (nomark _))
        (pss_one (ps_ret (pe_slice sl_str (pv 2) po_none (po_some (pe_op op_sub (pe_callB call_len_str (by rfl) T.z_len PySem.boot_len (pa_cons (pv 2) pa_nil)) pe_int)))))
        pss_nil)
      (pss_cons (ps_set (i := 6) sc_law_changed.nd rfl (by first | exact Or.inl rfl | exact Or.inr rfl) (pe_split (pv 2) pe_str))
      (pss_cons (ps_set (i := 4) sc_law_changed.nd rfl (by first | exact Or.inl rfl | exact Or.inr rfl) (pe_call (ok_law_mix T) (hr.mono (by decide)) (by rfl) T.g_law_mix T.F_law_mix.kp T.b_law_mix .nil (passes_call (takes_of rfl rfl rfl rfl) fun _ _ _ _ z => z) (pa_cons (pv 0) (pa_cons (pe_op op_add (pv 1) pe_int) (pa_cons (pe_callB (kcall_len K) (by rfl) T.z_len PySem.boot_len (pa_cons (pv 6) pa_nil)) pa_nil)))))
      (pss_cons (ps_set (i := 7) sc_law_changed.nd rfl (by first | exact Or.inl rfl | exact Or.inr rfl) (pe_split (pe_ix (kix_list K) (pv 6) (pv 4) (fun _ _ => rfl)) pe_str))
      (pss_cons (ps_set (i := 8) sc_law_changed.nd rfl (by first | exact Or.inl rfl | exact Or.inr rfl) (pe_call (ok_law_mix T) (hr.mono (by decide)) (by rfl) T.g_law_mix T.F_law_mix.kp T.b_law_mix .nil (passes_call (takes_of rfl rfl rfl rfl) fun _ _ _ _ z => z) (pa_cons (pv 0) (pa_cons (pe_op op_add (pv 1) pe_int) (pa_cons (pe_callB (kcall_len K) (by rfl) T.z_len PySem.boot_len (pa_cons (pv 7) pa_nil)) pa_nil)))))
      (pss_cons (ps_if (pt_cmpR op_eq (pv 3) pe_int (nomark _))
        (pss_cons (ps_set (i := 9) sc_law_changed.nd rfl (by first | exact Or.inl rfl | exact Or.inr rfl) (pe_call (ok_law_mix T) (hr.mono (by decide)) (by rfl) T.g_law_mix T.F_law_mix.kp T.b_law_mix .nil (passes_call (takes_of rfl rfl rfl rfl) fun _ _ _ _ z => z) (pa_cons (pv 0) (pa_cons (pe_op op_add (pv 1) pe_int) (pa_cons pe_int pa_nil)))))
      (pss_cons (ps_set (i := 10) sc_law_changed.nd rfl (by first | exact Or.inl rfl | exact Or.inr rfl) (pe_op op_cat (pe_op op_cat (pe_slice (ksl_list K) (pv 6) po_none (po_some (pv 4))) (pe_ix (kix_list K) (pe_lst (pa_cons (pe_lst pa_nil) (pa_cons (pe_lst (pa_cons (pe_ix (kix_list K) (pv 6) (pv 4) (fun _ _ => rfl)) (pa_cons (pe_ix (kix_list K) (pv 6) (pv 4) (fun _ _ => rfl)) pa_nil))) (pa_cons (pe_lst (pa_cons (pe_ix (kix_list K) (pv 6) pe_int (fun _ _ => rfl)) pa_nil)) pa_nil)))) (pv 9) (fun _ _ => rfl))) (pe_slice (ksl_list K) (pv 6) (po_some (pe_op op_add (pv 4) pe_int)) po_none)))
      (pss_one (ps_ret (kpe_join K pe_str (pv 10))))))
        pss_nil)
      (pss_cons (ps_set (i := 11) sc_law_changed.nd rfl (by first | exact Or.inl rfl | exact Or.inr rfl) (pe_lst (pa_cons pe_str (pa_cons (pe_op op_add_str pe_str (pe_ix (kix_list K) (pv 7) (pv 8) (fun _ _ => rfl))) (pa_cons pe_str (pa_cons pe_str (pa_cons pe_str (pa_cons pe_str (pa_cons pe_str (pa_cons (pe_op op_add_str (pe_ix (kix_list K) (pv 7) (pv 8) (fun _ _ => rfl)) pe_str) (pa_cons pe_str pa_nil)))))))))))
      (pss_cons (ps_asg (pe_ix (kix_list K) (pv 11) (pe_call (ok_law_mix T) (hr.mono (by decide)) (by rfl) T.g_law_mix T.F_law_mix.kp T.b_law_mix .nil (passes_call (takes_of rfl rfl rfl rfl) fun _ _ _ _ z => z) (pa_cons (pv 0) (pa_cons (pe_op op_add (pv 1) pe_int) (pa_cons pe_int pa_nil)))) (fun _ _ => rfl)) (pg_sub (pv 7) (pv 8) set_list))
      (pss_one (ps_ret (kpe_join K pe_str (pe_op op_cat (pe_op op_cat (pe_slice (ksl_list K) (pv 6) po_none (po_some (pv 4))) (pe_lst (pa_cons (kpe_join K pe_str (pv 7)) pa_nil))) (pe_slice (ksl_list K) (pv 6) (po_some (pe_op op_add (pv 4) pe_int)) po_none))))))))))))))))))), ?_⟩)
  refine SpA.go h N_law_changed 3 (fun _ => rfl) ?_
  rintro ⟨ds, k, t⟩ ⟨hl, hp⟩
  have hl : t.length ≤ 20000 := hl
  have hp : 1 ≤ t.length := hp
  have sz : (16777216 : Nat) = sizeLine := by decide
  obtain ⟨way, hway⟩ : ∃ w, w = mix ds k 7 := ⟨_, rfl⟩
  have hmp : (0 : Int) < (t.length : Int) + 1 := by omega
  have mat := mix_bd (ds := ds) (k := k + 1) hmp
  obtain ⟨at_, hat⟩ : ∃ a, a = mix ds (k + 1) ((t.length : Int) + 1) := ⟨_, rfl⟩
  rw [← hat] at mat
  have msg := mix_bd (ds := ds) (k := k + 2) (many := 17) (by decide)
  obtain ⟨sg, hsg⟩ : ∃ a, a = mix ds (k + 2) 17 := ⟨_, rfl⟩
  rw [← hsg] at msg
  obtain ⟨c, hc⟩ : ∃ c, atI (PySem.Str.ofString "0123456789 \nenk-x").cps.toList sg = some c := by
    have e : (PySem.Str.ofString "0123456789 \nenk-x").cps.toList.length = 17 := by decide
    refine ⟨(PySem.Str.ofString "0123456789 \nenk-x").cps.toList[sg.toNat]'(by omega), ?_⟩
    unfold atI ixN
    rw [if_pos msg.1, if_pos (by omega)]
    exact List.getElem?_eq_getElem (by omega)
  have l17 : (PySem.Str.ofString "0123456789 \nenk-x").length ≤ sizeLine := by decide
  have ht : t.length ≤ sizeLine := by rw [← sz]; omega
  let ρ1 : List Sl := [.b (bL (ds.map .int)), .b (pu (dI k)), .b (pu (dat (.str t))), .p (dI way), .p (dI at_), .p (dat (.str ⟨#[c]⟩)), .x, .x, .x, .x, .x, .x]
  have key : ∀ s : Str, s.length ≤ 2 * t.length + 20 → ∀ {te : TE} {ρ : List Sl}, Ev te ρ (pu (dat (.str s))) → Ex (WofE E) (tRet te) ρ (.rt (exR (chP t.length) dS)) := fun s hs {te ρ} h => Ex.ret (Ev.ex (P := chP t.length) (F := dS) s hs h)
  have c1 : (cutS t none (some at_)).length ≤ t.length := cutS_length t _ _
  have c2 : (cutS t (some at_) none).length ≤ t.length := cutS_length t _ _
  have c3 : (cutS t (some (at_ + 1)) none).length ≤ t.length := cutS_length t _ _
  have c4 : (cutS t none (some ((t.length : Int) - 1))).length ≤ t.length := cutS_length t _ _
  have o1 := one_len c
  refine ⟨.ok (exR (chP t.length) dS), [], rfl, ?_⟩
  refine Ex.seq (Ex.set (i := 3) (R := dI way) (Ev.is (by walk_at "ze") (by rw [hway]))) ?_
  refine Ex.seq (Ex.set (i := 4) (R := dI at_) (Ev.is (by walk_at "ze") (by rw [hat]))) ?_
  refine Ex.seq (Ex.set (i := 5) (R := dat (.str ⟨#[c]⟩)) (ev_op ev_str (by walk_at "ze") (o_ixStr l17 (by rw [← hsg]; exact hc)))) ?_
  refine Ex.of (ρ' := ρ1) rfl ?_
  have tw : ∀ n : Int, EvT (tTest (tOp rEq (tVar 3) (tC (.int n)))) ρ1 (decide (way = n)) := fun n => et_test (ev_op (ev_var rfl) ev_int o_eqI)
  refine Ex.ite (tw 0) (fun z => Ex.seqE (key (cutS t none (some at_) ++ ⟨#[c]⟩ ++ cutS t (some at_) none) (by simp only [len_app]; omega) (ev_op (ev_op (ev_slS (ev_b rfl) eo_none (eo_some (ev_var rfl)) ht) (ev_var rfl) (o_addS (by rw [← sz]; omega))) (ev_slS (ev_b rfl) (eo_some (ev_var rfl)) eo_none ht) (o_addS (by rw [← sz]; simp only [len_app]; omega)))) rfl) (fun _ => Ex.skip ?_)
  refine Ex.ite (tw 1) (fun z => Ex.seqE (key (cutS t none (some at_) ++ cutS t (some (at_ + 1)) none) (by simp only [len_app]; omega) (ev_op (ev_slS (ev_b rfl) eo_none (eo_some (ev_var rfl)) ht) (ev_slS (ev_b rfl) (eo_some (by walk_at "ze")) eo_none ht) (o_addS (by rw [← sz]; omega)))) rfl) (fun _ => Ex.skip ?_)
  refine Ex.ite (tw 2) (fun z => Ex.seqE (key (cutS t none (some at_) ++ ⟨#[c]⟩ ++ cutS t (some (at_ + 1)) none) (by simp only [len_app]; omega) (ev_op (ev_op (ev_slS (ev_b rfl) eo_none (eo_some (ev_var rfl)) ht) (ev_var rfl) (o_addS (by rw [← sz]; omega))) (ev_slS (ev_b rfl) (eo_some (by walk_at "ze")) eo_none ht) (o_addS (by rw [← sz]; simp only [len_app]; omega)))) rfl) (fun _ => Ex.skip ?_)
  refine Ex.ite (tw 3) (fun z => Ex.seqE (key (cutS t none (some ((t.length : Int) - 1))) (by omega) (ev_slS (ev_b rfl) eo_none (eo_some (by walk_at "ze")) ht)) rfl) (fun _ => Ex.skip ?_)
  -- lines and words
  have hne := split_ne t (s := 10) (by decide)
  have htot := split_tot t (s := 10) (by decide)
  obtain ⟨ls, hls⟩ : ∃ ls, ls = Txt.split t (sepS 10) := ⟨_, rfl⟩
  rw [← hls] at hne htot
  have hpos : 0 < ls.length := List.length_pos_iff.mpr hne
  have hlsl := tot_sum ls
  have hsp : EvN (tM1 rSplit (tVar 2) (tC (.str (PySem.Str.ofString "\n")))) ρ1 (ls.map .str) := EvN.is (en_split (ev_b rfl) ev_str (by decide) (by show _ ≤ 16777216; omega)) (by rw [nl_eq, ← hls])
  refine Ex.seq (Ex.setN (i := 6) hsp (by show 6 < 12; decide)) (Ex.freeze 6 rfl ?_)
  have hlm : (0 : Int) < (((ls.map PyData.str).length : Nat) : Int) := by rw [List.length_map]; omega
  have mp := mix_bd (ds := ds) (k := k + 1) hlm
  obtain ⟨p, hpe⟩ : ∃ p : Nat, (p : Int) = mix ds (k + 1) (((ls.map PyData.str).length : Nat) : Int) := ⟨(mix ds (k + 1) (((ls.map PyData.str).length : Nat) : Int)).toNat, by omega⟩
  have hp2 : p < ls.length := by rw [List.length_map] at mp; rw [List.length_map] at hpe; omega
  refine Ex.seq (Ex.set (i := 4) (R := dI (p : Int)) (Ev.is (by walk_at "ze") (by rw [hpe]))) ?_
  have hil : atI (ls.map PyData.str) (p : Int) = some (.str ls[p]) := atI_map (en := PyData.str) (by omega) (by rw [Int.toNat_natCast]; exact List.getElem?_eq_getElem hp2)
  have hil0 : atI (ls.map PyData.str) 0 = some (.str ls[0]) := atI_map (en := PyData.str) (by decide) (List.getElem?_eq_getElem hpos)
  have hlp := tot_mem (List.getElem_mem hp2)
  have hl0 := tot_mem (List.getElem_mem hpos)
  have hta := tot_at hp2
  obtain ⟨l, hle⟩ : ∃ l, l = ls[p] := ⟨_, rfl⟩
  obtain ⟨l0, hle0⟩ : ∃ l, l = ls[0] := ⟨_, rfl⟩
  rw [← hle] at hil hlp hta
  rw [← hle0] at hil0 hl0
  have wne := split_ne l (s := 32) (by decide)
  have wtot := split_tot l (s := 32) (by decide)
  obtain ⟨ws, hws⟩ : ∃ ws, ws = Txt.split l (sepS 32) := ⟨_, rfl⟩
  rw [← hws] at wne wtot
  have wpos : 0 < ws.length := List.length_pos_iff.mpr wne
  have wsl := tot_sum ws
  let ρ2 : List Sl := [.b (bL (ds.map .int)), .b (pu (dI k)), .b (pu (dat (.str t))), .p (dI way), .p (dI (p : Int)), .p (dat (.str ⟨#[c]⟩)), .p (dat (.list (ls.map .str))), .x, .x, .x, .x, .x]
  refine Ex.of (ρ' := ρ2) rfl ?_
  refine Ex.seq (Ex.setN (i := 7) (ds := ws.map .str) (EvN.is (en_split (ev_op (ev_var rfl) (ev_var rfl) (Op2.l (o_ixL hil))) ev_str (by decide) (by show _ ≤ 16777216; omega)) (by rw [sp_eq, ← hws])) (by show 7 < 12; decide)) ?_
  have hwm : (0 : Int) < (((ws.map PyData.str).length : Nat) : Int) := by rw [List.length_map]; omega
  have mq := mix_bd (ds := ds) (k := k + 2) hwm
  obtain ⟨q, hqe⟩ : ∃ q : Nat, (q : Int) = mix ds (k + 2) (((ws.map PyData.str).length : Nat) : Int) := ⟨(mix ds (k + 2) (((ws.map PyData.str).length : Nat) : Int)).toNat, by omega⟩
  have hq2 : q < ws.length := by rw [List.length_map] at mq; rw [List.length_map] at hqe; omega
  refine Ex.seq (Ex.set (i := 8) (R := dI (q : Int)) (Ev.is (by walk_at "ze") (by rw [hqe]))) ?_
  have hwq : atI (ws.map PyData.str) (q : Int) = some (.str ws[q]) := atI_map (en := PyData.str) (by omega) (by rw [Int.toNat_natCast]; exact List.getElem?_eq_getElem hq2)
  have hwl := tot_mem (List.getElem_mem hq2)
  let ρ3 : List Sl := [.b (bL (ds.map .int)), .b (pu (dI k)), .b (pu (dat (.str t))), .p (dI way), .p (dI (p : Int)), .p (dat (.str ⟨#[c]⟩)), .p (dat (.list (ls.map .str))), .o (oL (ws.map .str)), .p (dI (q : Int)), .x, .x, .x]
  refine Ex.of (ρ' := ρ3) rfl ?_
  have tkl : (ls.map PyData.str).length = ls.length := List.length_map ..
  have cutA : ∀ {ρ : List Sl}, ρ[6]? = some (.p (dat (.list (ls.map .str)))) → ρ[4]? = some (.p (dI (p : Int))) → EvN (tSl (rSlL K) (tVar 6) tNoPart (tPart (tVar 4))) ρ ((ls.take p).map .str) := fun {ρ} h6 h4 => EvN.is (en_sl (Ev.bl (ev_var h6)) eo_none (eo_some (ev_var h4))) (by rw [cut_take (by omega), List.map_take])
  have cutB : ∀ {ρ : List Sl}, ρ[6]? = some (.p (dat (.list (ls.map .str)))) → ρ[4]? = some (.p (dI (p : Int))) → EvN (tSl (rSlL K) (tVar 6) (tPart (tOp (rI0 fun i j => V.int (i + j)) (tVar 4) (tC (.int 1)))) tNoPart) ρ ((ls.drop (p + 1)).map .str) := fun {ρ} h6 h4 => EvN.is (en_sl (Ev.bl (ev_var h6)) (eo_some (k := ((p + 1 : Nat) : Int)) (ev_op (ev_var h4) ev_int o_int0)) eo_none) (by rw [cut_drop (by omega), List.map_drop])
  have cat : ∀ {ρ : List Sl} {ta tb : TE} {xs ys : List Str}, EvN ta ρ (xs.map .str) → EvN tb ρ (ys.map .str) → xs.length + ys.length ≤ 1000000 → EvN (tOp rCat ta tb) ρ ((xs ++ ys).map .str) := fun {ρ ta tb xs ys} h1 h2 h3 => EvN.is (ev_opN (Ev.bl h1.ev) (Ev.bl h2.ev) (o_cat (by rw [List.length_map, List.length_map]; exact h3))) (by rw [List.map_append])
  have lts := List.length_take_le p ls
  have lds : (ls.drop (p + 1)).length ≤ ls.length := by rw [List.length_drop]; omega
  have nl1 : (PySem.Str.ofString "\n").length = 1 := by decide
  have sp1 : (PySem.Str.ofString " ").length = 1 := by decide
  have joinN : ∀ (ys : List Str), totS ys ≤ 2 * t.length + 20 → ∀ {ρ : List Sl} {te : TE}, Ev te ρ (bL (ys.map .str)) → Ex (WofE E) (tRet (tM1 (rJoin K) (tC (.str (PySem.Str.ofString "\n"))) te)) ρ (.rt (exR (chP t.length) dS)) := fun ys hy {ρ te} h =>
    key (Txt.join (PySem.Str.ofString "\n") ys) (by have := join_le 10 ys; rw [nl_eq]; omega) (ev_join ev_str h (by have := tot_sum ys; rw [nl1, Nat.mul_one]; omega))
  refine Ex.ite (b := decide (way = 4)) (et_test (ev_op (ev_var rfl) ev_int o_eqI)) (fun _ => ?_) (fun _ => Ex.skip ?_)
  · have mo := mix_bd (ds := ds) (k := k + 3) (many := 3) (by decide)
    obtain ⟨oth, hoth⟩ : ∃ a, a = mix ds (k + 3) 3 := ⟨_, rfl⟩
    rw [← hoth] at mo
    obtain ⟨X, hX, hX2, hX3⟩ : ∃ X : List Str, atI [PyData.list [], .list [.str l, .str l], .list [.str l0]] oth = some (.list (X.map .str)) ∧ X.length ≤ 2 ∧ totS X ≤ (l.length + 1) + (t.length + 1) := by
      have : oth = 0 ∨ oth = 1 ∨ oth = 2 := by omega
      rcases this with h | h | h <;> rw [h]
      · exact ⟨[], rfl, by decide, Nat.zero_le _⟩
      · exact ⟨[l, l], rfl, Nat.le_refl _, by show (l.length + 1) + ((l.length + 1) + 0) ≤ _; omega⟩
      · exact ⟨[l0], rfl, by show 1 ≤ 2; decide, by show (l0.length + 1) + 0 ≤ _; omega⟩
    refine Ex.seqE (Ex.seq (Ex.set (i := 9) (R := dI oth) (Ev.is (by walk_at "ze") (by rw [hoth]))) (Ex.seq (Ex.setN (i := 10) (ds := (ls.take p ++ X ++ ls.drop (p + 1)).map .str) ?_ (by show 10 < 12; decide)) (joinN (ls.take p ++ X ++ ls.drop (p + 1)) ?_ (ev_o rfl)))) rfl
    · refine cat (EvN.is (ev_opN (Ev.bl (cutA rfl rfl).ev) (Ev.bl (ev_op (EvN.ev (en_lstD (ed_cons (EvN.ev (en_lstD ed_nil (Nat.le_of_ble_eq_true rfl))) (ed_cons (EvN.ev (en_lstD (ed_cons (ev_op (ev_var rfl) (ev_var rfl) (Op2.l (o_ixL hil))) (ed_cons (ev_op (ev_var rfl) (ev_var rfl) (Op2.l (o_ixL hil))) ed_nil)) (Nat.le_of_ble_eq_true rfl))) (ed_cons (EvN.ev (en_lstD (ed_cons (ev_op (ev_var rfl) ev_int (Op2.l (o_ixL hil0))) ed_nil) (Nat.le_of_ble_eq_true rfl))) ed_nil))) (Nat.le_of_ble_eq_true rfl))) (ev_var rfl) (Op2.l (o_ixL hX)))) (o_cat (by rw [List.length_map, List.length_map]; omega))) (by rw [List.map_append])) (cutB rfl rfl) (by rw [List.length_append]; omega)
    · rw [totS_app, totS_app]
      omega
  · have mn := mix_bd (ds := ds) (k := k + 3) (many := 9) (by decide)
    obtain ⟨m, hm⟩ : ∃ a, a = mix ds (k + 3) 9 := ⟨_, rfl⟩
    rw [← hm] at mn
    obtain ⟨w, hw⟩ : ∃ w, w = ws[q] := ⟨_, rfl⟩
    rw [← hw] at hwq hwl
    obtain ⟨nums, hnums⟩ : ∃ n, n = [PyData.str (PySem.Str.ofString "00"), .str (PySem.Str.ofString "0" ++ w), .str (PySem.Str.ofString "1048577"), .str (PySem.Str.ofString "9999999"), .str (PySem.Str.ofString "10000000"), .str (PySem.Str.ofString "41"), .str (PySem.Str.ofString ""), .str (w ++ PySem.Str.ofString "0"), .str (PySem.Str.ofString "1048576")] := ⟨_, rfl⟩
    have z1 : (PySem.Str.ofString "0").length = 1 := by decide
    obtain ⟨y, hy, hyl⟩ : ∃ y : Str, atI nums m = some (.str y) ∧ y.length ≤ w.length + 8 := by
      have : m = 0 ∨ m = 1 ∨ m = 2 ∨ m = 3 ∨ m = 4 ∨ m = 5 ∨ m = 6 ∨ m = 7 ∨ m = 8 := by omega
      rw [hnums]
      rcases this with h | h | h | h | h | h | h | h | h <;> rw [h]
      · exact ⟨_, rfl, by have : (PySem.Str.ofString "00").length = 2 := by decide
                          omega⟩
      · exact ⟨_, rfl, by rw [len_app]; omega⟩
      · exact ⟨_, rfl, by have : (PySem.Str.ofString "1048577").length = 7 := by decide
                          omega⟩
      · exact ⟨_, rfl, by have : (PySem.Str.ofString "9999999").length = 7 := by decide
                          omega⟩
      · exact ⟨_, rfl, by have : (PySem.Str.ofString "10000000").length = 8 := by decide
                          omega⟩
      · exact ⟨_, rfl, by have : (PySem.Str.ofString "41").length = 2 := by decide
                          omega⟩
      · exact ⟨_, rfl, by have : (PySem.Str.ofString "").length = 0 := by decide
                          omega⟩
      · exact ⟨_, rfl, by rw [len_app]; omega⟩
      · exact ⟨_, rfl, by have : (PySem.Str.ofString "1048576").length = 7 := by decide
                          omega⟩
    have hset := tot_set hq2 (y := y) (by rw [← hw]; exact hyl)
    have hw2 := join_le 32 (ws.set q y)
    have gw : Ev (tOp (rIxL K) (tVar 7) (tVar 8)) ρ3 (pu (dat (.str w))) := ev_op (ev_o rfl) (ev_var rfl) (o_ixL hwq)
    refine Ex.seq (Ex.setN (i := 11) (ds := nums) (EvN.is (en_lstD (ed_cons ev_str (ed_cons (ev_op ev_str gw (o_addS (by rw [← sz]; omega))) (ed_cons ev_str (ed_cons ev_str (ed_cons ev_str (ed_cons ev_str (ed_cons ev_str (ed_cons (ev_op gw ev_str (o_addS (by rw [← sz]; omega))) (ed_cons ev_str ed_nil))))))))) (Nat.le_of_ble_eq_true rfl)) hnums.symm) (by show 11 < 12; decide)) ?_
    refine Ex.seq (Ex.setitem (i := 7) (ds := ws.map .str) (d := .str y) (k := (q : Int)) (j := q) rfl (ev_op (ev_o rfl) (Ev.is (by walk_at "ze") (by rw [hm])) (o_ixL hy)) (ev_var rfl) (by unfold ixN; rw [if_pos (by omega), if_pos (by rw [List.length_map]; omega), Int.toNat_natCast])) ?_
    have e7 : (ws.map PyData.str).set q (.str y) = (ws.set q y).map .str := by rw [List.map_set]
    rw [e7]
    refine joinN (ls.take p ++ [Txt.join (PySem.Str.ofString " ") (ws.set q y)] ++ ls.drop (p + 1)) ?_ (Ev.bl (EvN.ev (cat (cat (cutA rfl rfl) (en_lstD (ed_cons (ev_join ev_str (ev_o rfl) ?_) ed_nil) (Nat.le_of_ble_eq_true rfl)) ?_) (cutB rfl rfl) ?_)))
    · rw [totS_app, totS_app]
      have : totS [Txt.join (PySem.Str.ofString " ") (ws.set q y)] = (Txt.join (PySem.Str.ofString " ") (ws.set q y)).length + 1 := by unfold totS; simp
      rw [this, sp_eq]
      omega
    · have := tot_sum (ws.set q y)
      rw [sp1, Nat.mul_one]
      omega
    · show _ + 1 ≤ _
      omega
    · rw [List.length_append]
      show _ + 1 + _ ≤ _
      omega

end
end Q

set_option Elab.async false
set_option linter.all false
set_option maxRecDepth 100000
set_option maxHeartbeats 4000000
namespace Q
open PySem PySem.Spec PyProof.Rows L2 Z QT TL
local macro_rules | `(tactic| walk_at "zo") => `(tactic| first
  | with_reducible exact o_int0 | with_reducible exact o_bool0 | exact o_eqI | exact o_neI
  | exact o_intC (by assumption) | exact o_intC (by show (0 : Int) < _; omega) | exact o_intC ⟨by omega, by omega⟩ | exact o_intC (Or.inr ⟨by omega, by omega⟩) | exact o_intC (Or.inl ⟨by omega, by omega⟩) | exact o_intC ⟨by decide, by decide, by decide⟩
  | exact o_ixL (by assumption) | exact Op2.l (o_ixL (by assumption)) | exact o_ixT rfl | exact o_inT2 | exact o_inT | exact o_inL | exact Op2.r o_inL | exact o_notInL | exact Op2.r o_notInL | exact o_isN | exact o_notN)
local macro_rules | `(tactic| walk_at "zc") => `(tactic| first
  | exact cl_len | exact cl_lenP | exact cl_int | exact cl_abs | exact cl_min2 | exact cl_max2 | exact cl_intB | exact cl_sum | exact cl_any | exact cl_all)
local macro_rules | `(tactic| walk_at "za") => `(tactic| first
  | with_reducible exact ea_nil | with_reducible exact ed_nil
  | ((with_reducible refine' ed_cons ?z1 ?z2); (case z1 => walk_at "ze"); (case z2 => walk_at "za"))
  | ((with_reducible refine' ea_cons ?z1 ?z2); (case z1 => walk_at "ze"); (case z2 => walk_at "za")))
local macro_rules | `(tactic| walk_at "ze") => `(tactic| first
  | with_reducible assumption
  | with_reducible exact ev_int | with_reducible exact ev_bl | with_reducible exact ev_non | with_reducible exact ev_str
  | ((with_reducible refine' ev_b ?z1); (case z1 => rfl)) | ((with_reducible refine' ev_var ?z1); (case z1 => rfl)) | ((with_reducible refine' ev_o ?z1); (case z1 => rfl))
  | ((with_reducible refine' ev_op ?z1 ?z2 ?z3); (case z1 => walk_at "ze"); (case z2 => walk_at "ze"); (case z3 => walk_at "zo"))
  | ((with_reducible refine' ev_chain ?z1 ?z2 ?z3 ?z4 ?z5); (case z1 => walk_at "ze"); (case z2 => walk_at "ze"); (case z4 => walk_at "zo"); (case z3 => intro _; walk_at "ze"); (case z5 => intro _; walk_at "zo"))
  | ((with_reducible refine' ev_andV ?z1 ?z2); (case z1 => walk_at "ze"); (case z2 => intro _; walk_at "ze"))
  | ((with_reducible refine' ev_orV ?z1 ?z2); (case z1 => walk_at "ze"); (case z2 => intro _; walk_at "ze"))
  | ((with_reducible refine' ev_notV ?z1); (case z1 => walk_at "ze"))
  | ((with_reducible refine' ev_neg ?z1); (case z1 => walk_at "ze"))
  | ((with_reducible refine' ev_tupD ?z1 ?z2); (case z1 => walk_at "za"); (case z2 => exact Nat.le_of_ble_eq_true rfl))
  | ((with_reducible refine' ev_cb ?z1 ?z2); (case z1 => walk_at "za"); (case z2 => walk_at "zc"))
  | ((with_reducible refine' EvN.ev ?z1); (case z1 => walk_at "zn"))
  | walk_at "zf")
local macro_rules | `(tactic| walk_at "zb") => `(tactic| first
  | with_reducible assumption
  | ((with_reducible refine' ev_b ?z1); (case z1 => rfl)) | ((with_reducible refine' ev_o ?z1); (case z1 => rfl))
  | ((with_reducible refine' Ev.bl ?z1); (case z1 => walk_at "ze")))
local macro_rules | `(tactic| walk_at "zn") => `(tactic| first
  | with_reducible assumption
  | ((with_reducible refine' en_lstD ?z1 ?z2); (case z1 => walk_at "za"); (case z2 => exact Nat.le_of_ble_eq_true rfl))
  | ((with_reducible refine' en_cb ?z1 ?z2); (case z1 => walk_at "za"); (case z2 => first | exact cl_list | exact cl_listP)))
local macro_rules | `(tactic| walk_at "zt") => `(tactic| first
  | with_reducible assumption
  | ((with_reducible refine' et_test ?z1); (case z1 => walk_at "ze"))
  | ((with_reducible refine' et_B ?z1); (case z1 => walk_at "ze"))
  | ((with_reducible refine' et_and ?z1 ?z2); (case z1 => walk_at "zt"); (case z2 => intro _; walk_at "zt"))
  | ((with_reducible refine' et_or ?z1 ?z2); (case z1 => walk_at "zt"); (case z2 => intro _; walk_at "zt"))
  | ((with_reducible refine' et_not ?z1); (case z1 => walk_at "zt")))
local macro_rules | `(tactic| walk_at "zf") => `(tactic| first
  | ((with_reducible refine' c_is_size ?z1); (case z1 => walk_at "ze"))
  | ((with_reducible refine' c_is_price ?z1); (case z1 => walk_at "ze"))
  | ((with_reducible refine' c_are_ends ?z1 ?z2 ?z3); (case z1 => walk_at "ze"); (case z2 => walk_at "ze"); (case z3 => walk_at "ze"))
  | ((with_reducible refine' c_mix ?z0 ?z1 ?z2 ?z3); (case z1 => walk_at "zb"); (case z2 => walk_at "ze"); (case z3 => walk_at "ze"); (case z0 => first | assumption | omega | decide))
  | ((with_reducible refine' fld_size (by assumption) ?z1); (case z1 => walk_at "ze"))
  | ((with_reducible refine' fld_edges (by assumption) ?z1); (case z1 => walk_at "ze")))
local macro_rules | `(tactic| walk_at "zc") => `(tactic| exact cl_lenS)
local macro_rules | `(tactic| walk_at "zo") => `(tactic| exact o_ixS (by omega) (by assumption))
local macro_rules | `(tactic| walk_at "zf") => `(tactic| ((with_reducible refine' c_is_number ?z0 ?z1); (case z1 => walk_at "ze"); (case z0 => first | assumption | omega)))
local macro_rules | `(tactic| walk_at "ze") => `(tactic| ((with_reducible refine' ev_is0 ?z1); (case z1 => walk_at "ze")))
local macro_rules | `(tactic| walk_at "zc") => `(tactic| exact cl_lenStr (by show _ ≤ 16777216; omega))
local macro_rules | `(tactic| walk_at "zo") => `(tactic| first | exact o_eqS | exact o_neS)
section
variable {P : Program} {w : World} {K : PySem.W.Frag} {mg : Str → Option Value} {base : Heap}
theorem ok_law (T : Tx K mg) : RunAt P w K mg base (L2.CX P w) 7 T.f_law T.fd_law ["script"] (sp_law T) := by
  refine fun_at T.F_law sc_law (SpA.len fun _ => rfl) (fun cdv s H vs Q E hr hgd h => ⟨_, (pss_cons (ps_set (i := 1) sc_law.nd rfl (by first | exact Or.inl rfl | exact Or.inr rfl) (pe_call (ok_law_draws T) (hr.mono (by decide)) (by rfl) T.g_law_draws T.F_law_draws.kp T.b_law_draws .nil (passes_call (takes_of rfl rfl rfl rfl) fun _ _ _ _ z => z) (pa_cons (pv 0) pa_nil)))
      (pss_cons (ps_asg (pe_call (ok_law_network T) (hr.mono (by decide)) (by rfl) T.g_law_network T.F_law_network.kp T.b_law_network .nil (passes_call (takes_of rfl rfl rfl rfl) fun _ _ _ _ z => z) (pa_cons (pv 1) (pa_cons pe_int (pa_cons pe_int (pa_cons pe_int (pa_cons (pe_ix (kix_list K) (pe_lst (pa_cons pe_int (pa_cons pe_int (pa_cons pe_int pa_nil)))) (pe_call (ok_law_mix T) (hr.mono (by decide)) (by rfl) T.g_law_mix T.F_law_mix.kp T.b_law_mix .nil (passes_call (takes_of rfl rfl rfl rfl) fun _ _ _ _ z => z) (pa_cons (pv 1) (pa_cons pe_int (pa_cons pe_int pa_nil)))) (fun _ _ => rfl)) pa_nil)))))) (kpg_tup K (n := 2) rfl (pgs_cons (pg_name (i := 2) sc_law.nd rfl (by first | exact Or.inl rfl | exact Or.inr rfl)) (pgs_cons (pg_name (i := 3) sc_law.nd rfl (by first | exact Or.inl rfl | exact Or.inr rfl)) pgs_nil))))
      (pss_cons (ps_set (i := 4) sc_law.nd rfl (by first | exact Or.inl rfl | exact Or.inr rfl) (pe_make T.mk_Network (ok_Network___init__ T) (hr.mono (by decide)) (by rfl) T.g_Network T.b_Network___init__ .nil (passes_call (takes_of rfl rfl rfl rfl) fun _ _ _ _ z => z) (pa_cons (pv 2) (pa_cons (pv 3) pa_nil))))
      (pss_cons (ps_set (i := 5) sc_law.nd rfl (by first | exact Or.inl rfl | exact Or.inr rfl) (pe_call (ok_write_network T) (hr.mono (by decide)) (by rfl) T.g_write_network T.F_write_network.kp T.b_write_network .nil (passes_call (takes_of rfl rfl rfl rfl) fun _ _ _ _ z => z) (pa_cons (pv 4) pa_nil)))
      (pss_cons (ps_if (PW.pt (pw_or (pt_cmpR op_ne (pv 5) (pe_call (ok_law_text T) (hr.mono (by decide)) (by rfl) T.g_law_text T.F_law_text.kp T.b_law_text .nil (passes_call (takes_of rfl rfl rfl rfl) fun _ _ _ _ z => z) (pa_cons (pv 2) (pa_cons (pv 3) pa_nil))) (nomark _)) (pw_or1 (pt_cmpR (kop_neD K (Z.room64 hr)) (pe_call (ok_law_told T) (hr.mono (by decide)) (by rfl) T.g_law_told T.F_law_told.kp T.b_law_told .nil (passes_call (takes_of rfl rfl rfl rfl) fun _ _ _ _ z => z) (pa_cons (pv 5) pa_nil)) (pe_tup (pa_cons (pv 2) (pa_cons (pv 3) pa_nil))) (nomark _)))))
        (pss_one (ps_ret pe_bl))
        pss_nil)
      (pss_cons (ps_set (i := 6) sc_law.nd rfl (by first | exact Or.inl rfl | exact Or.inr rfl) (pe_lst (pa_cons pe_str (pa_cons pe_str (pa_cons pe_str (pa_cons pe_str (pa_cons (pv 5) pa_nil)))))))
      (pss_cons (ps_for (passes_of rfl) rfl (pi_range1 (by rfl) T.z_range (pa_cons pe_int pa_nil)) (pg_name (i := 7) sc_law.nd rfl (by first | exact Or.inl rfl | exact Or.inr rfl))
        (pss_cons (ps_set (i := 8) sc_law.nd rfl (by first | exact Or.inl rfl | exact Or.inr rfl) (pe_ix (kix_list K) (pe_lst (pa_cons (pv 5) (pa_cons (pe_ix (kix_list K) (pv 6) (pe_un un_neg pe_int) (fun _ _ => rfl)) pa_nil))) (pe_callTy call_int1 (by rfl) T.z_int (by decide +kernel) (pa_cons (pe_cmpR op_eq (pe_call (ok_law_mix T) (hr.mono (by decide)) (by rfl) T.g_law_mix T.F_law_mix.kp T.b_law_mix .nil (passes_call (takes_of rfl rfl rfl rfl) fun _ _ _ _ z => z) (pa_cons (pv 1) (pa_cons (pe_op op_add pe_int (pv 7)) (pa_cons pe_int pa_nil)))) pe_int (nomark _)) pa_nil)) (fun _ _ => rfl)))
      (pss_one (ps_if (pt_cmpR op_gt (pe_callB call_len_str (by rfl) T.z_len PySem.boot_len (pa_cons (pv 8) pa_nil)) pe_int (nomark _))
        (pss_one (ps_expr (pe_bm PySem.F.plainAttrs_list PySem.F.slot_list_append PySem.F.type_list_append mt_append (pv 6) (pa_cons (pe_call (ok_law_changed T) (hr.mono (by decide)) (by rfl) T.g_law_changed T.F_law_changed.kp T.b_law_changed .nil (passes_call (takes_of rfl rfl rfl rfl) fun _ _ _ _ z => z) (pa_cons (pv 1) (pa_cons (pe_op op_add pe_int (pe_op op_mul pe_int (pv 7))) (pa_cons (pv 8) pa_nil)))) pa_nil))))
        pss_nil))))
      (pss_cons (ps_if (PW.pt (pw_and (pt_cmpR op_eq (pe_call (ok_law_mix T) (hr.mono (by decide)) (by rfl) T.g_law_mix T.F_law_mix.kp T.b_law_mix .nil (passes_call (takes_of rfl rfl rfl rfl) fun _ _ _ _ z => z) (pa_cons (pv 1) (pa_cons pe_int (pa_cons pe_int pa_nil)))) pe_int (nomark _)) (pw_and1 (pt_cmpR op_gt (pv 2) pe_int (nomark _)))))
        (pss_cons (ps_set (i := 9) sc_law.nd rfl (by first | exact Or.inl rfl | exact Or.inr rfl) (pe_op op_add pe_int (pe_call (ok_law_mix T) (hr.mono (by decide)) (by rfl) T.g_law_mix T.F_law_mix.kp T.b_law_mix .nil (passes_call (takes_of rfl rfl rfl rfl) fun _ _ _ _ z => z) (pa_cons (pv 1) (pa_cons pe_int (pa_cons pe_int pa_nil))))))
      (pss_one (ps_expr (pe_bm PySem.F.plainAttrs_list PySem.F.slot_list_append PySem.F.type_list_append mt_append (pv 6) (pa_cons (pe_op op_add_str (pe_op op_add_str pe_str (pe_op op_mulS pe_str (pv 9))) (pe_ix (kix_list K) (pe_lst (pa_cons pe_str (pa_cons pe_str pa_nil))) (pe_call (ok_law_mix T) (hr.mono (by decide)) (by rfl) T.g_law_mix T.F_law_mix.kp T.b_law_mix .nil (passes_call (takes_of rfl rfl rfl rfl) fun _ _ _ _ z => z) (pa_cons (pv 1) (pa_cons pe_int (pa_cons pe_int pa_nil)))) (fun _ _ => rfl))) pa_nil)))))
        pss_nil)
      (pss_cons (ps_for (passes_of rfl) rfl (kpi_list K (pv 6)) (pg_name (i := 10) sc_law.nd rfl (by first | exact Or.inl rfl | exact Or.inr rfl))
        (pss_cons (ps_set (i := 11) sc_law.nd rfl (by first | exact Or.inl rfl | exact Or.inr rfl) (pe_call (ok_law_told T) (hr.mono (by decide)) (by rfl) T.g_law_told T.F_law_told.kp T.b_law_told .nil (passes_call (takes_of rfl rfl rfl rfl) fun _ _ _ _ z => z) (pa_cons (pv 10) pa_nil)))
      (pss_cons (ps_if (pt_cmpR (kop_neD K (Z.room64 hr)) (pv 11) (pe_call (ok_law_read T) (hr.mono (by decide)) (by rfl) T.g_law_read T.F_law_read.kp T.b_law_read .nil (passes_call (takes_of rfl rfl rfl rfl) fun _ _ _ _ z => z) (pa_cons (pv 10) pa_nil)) (nomark _))
        (pss_one (ps_ret pe_bl))
        pss_nil)
      (pss_one (ps_if (PW.pt (pw_and (pt_not (pt_val (pe_callB (kcall_isi K) (by rfl) T.z_isinstance (by decide +kernel) (pa_cons (pe_ix (kix_tup K) (pv 11) pe_int (fun _ _ => rfl)) (pa_cons (pe_bltn (v := .ty "str") (u := .type "str") (by rfl) T.z_str (by decide +kernel) rfl) pa_nil))))) (pw_and1 (pt_cmpR op_ne (pe_call (ok_write_network T) (hr.mono (by decide)) (by rfl) T.g_write_network T.F_write_network.kp T.b_write_network .nil (passes_call (takes_of rfl rfl rfl rfl) fun _ _ _ _ z => z) (pa_cons (pe_call (ok_read_network T) (hr.mono (by decide)) (by rfl) T.g_read_network T.F_read_network.kp T.b_read_network .nil (passes_call (takes_of rfl rfl rfl rfl) fun _ _ _ _ z => z) (pa_cons (pv 10) pa_nil)) pa_nil)) (pv 10) (nomark _)))))
        (pss_one (ps_ret pe_bl))
        pss_nil)))))
      (pss_one (ps_ret pe_bl))))))))))), ?_⟩)
  refine SpA.go h N_law 1 (fun _ => rfl) ?_
  intro xs hl
  have hl : xs.length ≤ 63 := hl
  obtain ⟨ds, hds⟩ : ∃ ds, ds = drawsL xs := ⟨_, rfl⟩
  obtain ⟨top, htop⟩ : ∃ top, top = topN ds := ⟨_, rfl⟩
  have htop1 : 0 < top ∧ top ≤ 1048577 := by rw [htop]; exact top_bd ds
  obtain ⟨n, hn⟩ : ∃ n, n = sizeN ds 60 12 := ⟨_, rfl⟩
  obtain ⟨es, hes⟩ : ∃ es, es = edgesN ds 60 n 9 top := ⟨_, rfl⟩
  have F0 : Fine n es := by
    rw [hes, hn]
    exact fine_net (by decide) (by decide) (by decide) (by decide) htop1.1 htop1.2
  have F := fineT_of F0
  have he9 : es.length ≤ 9 := by
    have m2 := mix_bd (ds := ds) (k := 60 + 1) (many := 9 + 1) (by decide)
    rw [hes]
    unfold edgesN
    split
    · rw [List.length_map, List.length_range]; omega
    · exact Nat.zero_le _
  obtain ⟨txt, htxt⟩ : ∃ s, s = netS n es := ⟨_, rfl⟩
  have htl : txt.length ≤ 400 := by
    have := netS_len F es (fun _ h => h)
    rw [htxt]
    omega
  have hrt : readT txt = .inr (n, es) := by rw [htxt]; exact read_fwd F
  have sz : (16777216 : Nat) = sizeLine := by decide
  let BASE : List Str → List Sl := fun ys => [.b (pu (scR K xs)), .o (oL (ds.map .int)), .p (dI n), .p (dat (eEs es)), .p (netR T n es), .p (dat (.str txt)), .o (oL (ys.map .str)), .x, .x, .x, .x, .x]
  refine ⟨.ok (dB true), [], rfl, ?_⟩
  refine Ex.seq (Ex.setN (i := 1) (ds := ds.map .int) (EvN.is (c_draws hl (ev_b rfl)) (by rw [hds])) (by show 1 < 12; decide)) ?_
  have m0 := mix_bd (ds := ds) (k := 0) (many := 3) (by decide)
  have ht : atI [PyData.int 3, .int 60, .int 1048577] (mix ds 0 3) = some (.int top) := by rw [htop]; exact atI_ints (ds := [3, 60, 1048577]) m0.1 m0.2
  refine Ex.seq (Ex.asgPair (i := 2) (j := 3) (n := n) (ds := es.map eE) (ds, (60 : Int), 12, 9, top) (ea_cons (ev_o rfl) (ea_cons ev_int (ea_cons ev_int (ea_cons ev_int (ea_cons (ev_op (EvN.ev (by walk_at "zn")) (by walk_at "ze") (Op2.l (o_ixL ht))) ea_nil))))) ⟨by show (0 : Int) < 12; decide, by show (0 : Int) ≤ 9; decide, by show (9 : Int) ≤ 1000; decide, htop1.1⟩ (by rw [hes, hn]) (by show 3 < 12; decide)) (Ex.freeze 3 rfl ?_)
  refine Ex.seq (Ex.set (i := 4) (R := netR T n es) (ev_make (F := netI T) (n, es) (ea_cons (ev_var rfl) (ea_cons (Ev.bl (ev_var rfl)) ea_nil)) trivial (netI_ok T F0.good))) ?_
  refine Ex.seq (Ex.set (i := 5) (R := dat (.str txt)) (Ev.is (c_write F (ev_var rfl)) (by rw [htxt]))) ?_
  let BASE0 : List Sl := [.b (pu (scR K xs)), .o (oL (ds.map .int)), .p (dI n), .p (dat (eEs es)), .p (netR T n es), .p (dat (.str txt)), .x, .x, .x, .x, .x, .x]
  refine Ex.of (ρ' := BASE0) rfl ?_
  have st := sh_told (readT txt)
  have st2 : Sh 3 (.tuple [.int n, eEs es]) := sh_told (.inr (n, es))
  have eqt : PyData.eqv (toldD (readT txt)) (.tuple [.int n, eEs es]) = true := by
    rw [hrt]
    exact st2.refl
  refine Ex.ite (b := false) (EvT.is (et_or (et_test (ev_op (ev_var rfl) (c_ltext F (ev_var rfl) (ev_var rfl)) o_neS)) (fun _ => et_test (ev_op (c_told (by omega) (ev_var rfl)) (ev_tupD (ed_cons (ev_var rfl) (ed_cons (ev_var rfl) ed_nil)) (Nat.le_of_ble_eq_true rfl)) (o_neD st.shaped st2.shaped)))) (by rw [htxt, decide_eq_true rfl, ← htxt, eqt]; rfl)) (fun z => by cases z) (fun _ => Ex.skip ?_)
  refine Ex.seq (Ex.setN (i := 6) (ds := [PySem.Str.ofString "", PySem.Str.ofString "network 3", PySem.Str.ofString "\n", PySem.Str.ofString "network 1\n", txt].map .str) (EvN.is (en_lstD (ed_cons ev_str (ed_cons ev_str (ed_cons ev_str (ed_cons ev_str (ed_cons (ev_var rfl) ed_nil))))) (Nat.le_of_ble_eq_true rfl)) rfl) (by show 6 < 12; decide)) ?_
  refine Ex.of (ρ' := BASE [PySem.Str.ofString "", PySem.Str.ofString "network 3", PySem.Str.ofString "\n", PySem.Str.ofString "network 1\n", txt]) rfl ?_
  refine ExS.ex ?_
  have i0 : Tx6 0 [PySem.Str.ofString "", PySem.Str.ofString "network 3", PySem.Str.ofString "\n", PySem.Str.ofString "network 1\n", txt] := by
    have a1 : (PySem.Str.ofString "").length = 0 := by decide
    have a2 : (PySem.Str.ofString "network 3").length = 9 := by decide
    have a3 : (PySem.Str.ofString "\n").length = 1 := by decide
    have a4 : (PySem.Str.ofString "network 1\n").length = 10 := by decide
    have b0 : bnd 0 = 400 := rfl
    refine ⟨Nat.le_refl 5, by simp, fun y hy => ?_⟩
    rcases List.mem_cons.mp hy with rfl | hy
    · omega
    rcases List.mem_cons.mp hy with rfl | hy
    · omega
    rcases List.mem_cons.mp hy with rfl | hy
    · omega
    rcases List.mem_cons.mp hy with rfl | hy
    · omega
    rw [List.mem_singleton.mp hy]
    omega
  refine ExS.seqS (S1 := fun o => ∃ ys, Tx6 6 ys ∧ o = .nx (BASE ys)) (ExS.forI (K := K) (xs := List.range 6) (en := fun (k : Nat) => .int (k : Int)) BASE (fun pre ys => Tx6 pre.length ys) (ei_rangeT (n := 6) (by walk_at "za") (by decide) (by decide)) (Wk.refl _) i0 ?_ (fun ys hy => ⟨ys, by rw [List.length_range] at hy; exact hy, rfl⟩)) ?_
  · intro pre k post ys e hI
    have hk : k < 6 := List.mem_range.mp (by rw [e]; simp)
    have hpl : pre.length < 6 := by
      have := congrArg List.length e
      rw [List.length_range, List.length_append, List.length_cons] at this
      omega
    have hb5 := bnd_5 hpl
    have mk := mix_bd (ds := ds) (k := 1 + (k : Int)) (many := 3) (by decide)
    refine ⟨[7], _, eg_name, ?_⟩
    obtain ⟨b, hb⟩ : ∃ b, b = decide (mix ds (1 + (k : Int)) 3 = 1) := ⟨_, rfl⟩
    obtain ⟨y, hy, hyl⟩ : ∃ y : Str, atI [PyData.str txt, .str (ys.getLast hI.ne)] (if b = true then 1 else 0) = some (.str y) ∧ y.length ≤ bnd pre.length := by
      cases b with
      | true => exact ⟨_, rfl, hI.bd _ (List.getLast_mem _)⟩
      | false => exact ⟨_, rfl, by omega⟩
    refine ExS.seq (Ex.set (i := 8) (R := dat (.str y)) (ev_op (EvN.ev (en_lstD (ed_cons (ev_var rfl) (ed_cons (ev_op (ev_o rfl) (ev_neg ev_int) (o_ixL (at_last hI.ne))) ed_nil)) (Nat.le_of_ble_eq_true rfl))) (ev_cb (ea_cons (Ev.is (by walk_at "ze") (by rw [hb])) ea_nil) cl_intB) (Op2.l (o_ixL hy)))) ?_
    refine ExS.ife (b := decide ((0 : Int) < (y.length : Nat))) (et_test (ev_op (ev_cb (ea_cons (ev_var rfl) ea_nil) (cl_lenStr (by rw [← sz]; omega))) ev_int o_bool0)) (fun z => ?_) (fun z => ?_)
    · have hyp : 1 ≤ y.length := by have := of_decide_eq_true z; omega
      refine ExS.goW (I := fun ys' => Tx6 (pre ++ [k]).length ys') (ρ2 := fun ys' => [.b (pu (scR K xs)), .o (oL (ds.map .int)), .p (dI n), .p (dat (eEs es)), .p (netR T n es), .p (dat (.str txt)), .o (oL (ys'.map .str)), .p (dI (k : Int)), .p (dat (.str y)), .x, .x, .x]) (E := BASE) (ExS.imp (ExS.appEx (K := K) (i := 6) (T := "list") (ds := ys.map .str) (P := chP y.length) (f := PyData.str) rfl (c_changed (k := 10 + 5 * (k : Int)) (ds := ds) (t := y) ⟨by omega, hyp⟩ (ev_o rfl) (by walk_at "ze") (ev_var rfl)) (by rw [List.length_map]; have := hI.len; omega) rfl) fun o ⟨x, hx, eo⟩ => ⟨ys ++ [x], ⟨by rw [List.length_append, List.length_append]; have := hI.len; show ys.length + 1 ≤ _ + (_ + 1); omega, by simp, fun w hw => ?_⟩, by rw [eo, List.map_append]; rfl⟩) (fun _ => .k (.k (.k (.k (.k (.k (.k (.x (.x (.x (.x (.x .nil))))))))))))
      rw [List.length_append, List.length_singleton, bnd_s]
      rcases List.mem_append.mp hw with hw | hw
      · have := hI.bd w hw; omega
      · rw [List.mem_singleton.mp hw]
        have : x.length ≤ 2 * y.length + 20 := hx
        omega
    · refine ExS.goW (I := fun ys' => Tx6 (pre ++ [k]).length ys') (ρ2 := fun ys' => [.b (pu (scR K xs)), .o (oL (ds.map .int)), .p (dI n), .p (dat (eEs es)), .p (netR T n es), .p (dat (.str txt)), .o (oL (ys'.map .str)), .p (dI (k : Int)), .p (dat (.str y)), .x, .x, .x]) (E := BASE) (ExS.of Ex.next ⟨ys, ⟨by rw [List.length_append]; have := hI.len; omega, hI.ne, fun w hw => ?_⟩, rfl⟩) (fun _ => .k (.k (.k (.k (.k (.k (.k (.x (.x (.x (.x (.x .nil))))))))))))
      rw [List.length_append, List.length_singleton, bnd_s]
      have := hI.bd w hw
      omega
  rintro o ⟨ys, hI, rfl⟩
  refine .inl ⟨_, rfl, ?_⟩
  have hb6 : bnd 6 = 26860 := rfl
  have fin : ∀ zs : List Str, (∀ z ∈ zs, z.length ≤ 50000) → ∀ {ρ : List Sl}, ρ = BASE zs → Ex (WofE E) (tSeq (tFor (iList K (tVar 6)) (gName 10) (tSeq (tAsg (tCall (sp_law_told T) [] E (tCons (tVar 10) tNil)) (gName 11)) (tSeq (tIfS (tTest (tOp (rNeD K) (tVar 11) (tCall (sp_law_read T) [] E (tCons (tVar 10) tNil)))) (tRet (tC (V.bl false))) tNext) (tIfS (tAnd (tNot (tB (tCB (rIsi K) (tCons (tOp (rIxT K) (tVar 11) (tC (V.int 0))) (tCons (tC (V.ty "str")) tNil))))) (tTest (tOp rNe (tCall (sp_write_network T) [] E (tCons (tCall (sp_read_network T) [] E (tCons (tVar 10) tNil)) tNil)) (tVar 10)))) (tRet (tC (V.bl false))) tNext)))) (tRet (tC (V.bl true)))) ρ (.rt (dB true)) := by
    intro zs hzs ρ hρ
    rw [hρ]
    refine Ex.freeze 6 rfl ?_
    let BF : List Sl := [.b (pu (scR K xs)), .o (oL (ds.map .int)), .p (dI n), .p (dat (eEs es)), .p (netR T n es), .p (dat (.str txt)), .p (dat (.list (zs.map .str))), .x, .x, .x, .x, .x]
    refine Ex.seq (ρ1 := BF) (Ex.for_ (K := K) (xs := zs) (en := PyData.str) (fun _ => BF) (ei_list (Ev.s (ev_var rfl))) (Wk.refl _) ?_) (Ex.ret ev_bl)
    intro pre z post e
    have hz : z.length ≤ 50000 := hzs z (by rw [e]; simp)
    refine ⟨[10], _, eg_name, ?_⟩
    have sd := sh_told (readT z)
    refine Ex.go (Ex.out (ρ' := [.b (pu (scR K xs)), .o (oL (ds.map .int)), .p (dI n), .p (dat (eEs es)), .p (netR T n es), .p (dat (.str txt)), .p (dat (.list (zs.map .str))), .x, .x, .x, .p (dat (.str z)), .p (dat (toldD (readT z)))]) (.k (.k (.k (.k (.k (.k (.k (.k (.k (.k (.x (.x .nil)))))))))))) ?_)
    refine Ex.seq (Ex.set (i := 11) (R := dat (toldD (readT z))) (c_told hz (ev_var rfl))) ?_
    refine Ex.ite (b := false) (EvT.is (et_test (ev_op (ev_var rfl) (c_lread hz (ev_var rfl)) (o_neD sd.shaped sd.shaped))) (by rw [sd.refl]; rfl)) (fun z => by cases z) (fun _ => Ex.skip ?_)
    cases hR : readT z with
    | inl kd =>
      exact Ex.ife (b := false) (EvT.is (et_and (b := false) (et_not (et_B (ev_cb (ea_cons (ev_op (ev_var rfl) ev_int (o_ixT (ds := [.str (rkS kd.1), .int (kd.2 : Int)]) rfl)) (ea_cons ev_ty ea_nil)) cl_isS))) (fun z => by cases z)) (by rfl)) (fun z => by cases z) (fun _ => Ex.next)
    | inr x =>
      obtain ⟨n', es'⟩ := x
      obtain ⟨hb, F'⟩ := read_back hR
      exact Ex.ife (b := false) (EvT.is (et_and (et_not (et_B (ev_cb (ea_cons (ev_op (ev_var rfl) ev_int (o_ixT (ds := [.int n', eEs es']) rfl)) (ea_cons ev_ty ea_nil)) cl_isI))) (fun _ => et_test (ev_op (c_write F' (c_read (by omega) hR (ev_var rfl))) (ev_var rfl) o_neS))) (by rw [← hb, decide_eq_true rfl]; rfl)) (fun z => by cases z) (fun _ => Ex.next)
  refine ExS.of (o := .rt (dB true)) ?_ rfl
  have hys : ∀ z ∈ ys, z.length ≤ 50000 := fun z hz => by have := hI.bd z hz; omega
  have m9 := mix_bd (ds := ds) (k := 9) (many := 6) (by decide)
  have m8 := mix_bd (ds := ds) (k := 8) (many := 5) (by decide)
  have m7 := mix_bd (ds := ds) (k := 7) (many := 2) (by decide)
  obtain ⟨B, hB⟩ : ∃ B, B = (decide (mix ds 9 6 = 1) && decide ((1 : Int) < n)) := ⟨_, rfl⟩
  refine Ex.ite (b := B) (EvT.is (et_and (et_test (ev_op (by walk_at "ze") ev_int o_eqI)) (fun _ => et_test (ev_op (ev_var rfl) ev_int o_bool0))) hB.symm) (fun _ => ?_) (fun _ => Ex.skip (fin ys hys rfl))
  obtain ⟨m, hm⟩ : ∃ m, m = 198 + mix ds 8 5 := ⟨_, rfl⟩
  have hml : (PySem.Str.ofString "edge 0 1 5\n").length = 11 := by decide
  have mok : MulOk (PySem.Str.ofString "edge 0 1 5\n") m ∧ (Txt.mul (PySem.Str.ofString "edge 0 1 5\n") m).length ≤ 3000 := by
    have : m = 198 ∨ m = 199 ∨ m = 200 ∨ m = 201 ∨ m = 202 := by omega
    rcases this with h | h | h | h | h <;> rw [h] <;> exact ⟨⟨by decide, fun _ _ => by rw [hml]; decide, fun _ _ => by rw [hml]; decide⟩, by decide +kernel⟩
  obtain ⟨w, hw, hwl⟩ : ∃ w : Str, atI [PyData.str (PySem.Str.ofString "edge 2 2 2\n"), .str (PySem.Str.ofString "edge 39 38 0\n")] (mix ds 7 2) = some (.str w) ∧ w.length ≤ 20 := by
    have : mix ds 7 2 = 0 ∨ mix ds 7 2 = 1 := by omega
    rcases this with h | h <;> rw [h]
    · exact ⟨_, rfl, by decide⟩
    · exact ⟨_, rfl, by decide⟩
  have h40 : (PySem.Str.ofString "network 40\n").length = 11 := by decide
  refine Ex.seq (Ex.seq (Ex.set (i := 9) (R := dI m) (Ev.is (by walk_at "ze") (by rw [hm]))) (Ex.append (i := 6) (ds := ys.map .str) (d := .str (PySem.Str.ofString "network 40\n" ++ Txt.mul (PySem.Str.ofString "edge 0 1 5\n") m ++ w)) rfl (ev_op (ev_op ev_str (ev_op ev_str (ev_var rfl) (o_mulS mok.1)) (o_addS (by rw [← sz]; have := mok.2; omega))) (ev_op (EvN.ev (by walk_at "zn")) (by walk_at "ze") (Op2.l (o_ixL hw))) (o_addS (by rw [← sz, len_app]; have := mok.2; omega))) (by rw [List.length_map]; have := hI.len; omega) rfl)) ?_
  refine Ex.weak (ρ' := BASE (ys ++ [PySem.Str.ofString "network 40\n" ++ Txt.mul (PySem.Str.ofString "edge 0 1 5\n") m ++ w])) ?_ (fin _ (fun z hz => ?_) rfl)
  · show Wk [_, _, _, _, _, _, Sl.o (oL (ys.map .str ++ [.str _])), _, _, _, _, _] [_, _, _, _, _, _, Sl.o (oL ((ys ++ [_]).map .str)), _, _, _, _, _]
    rw [List.map_append]
    exact .k (.k (.k (.k (.k (.k (.k (.x (.x (.x (.x (.x .nil)))))))))))
  · rcases List.mem_append.mp hz with hz | hz
    · exact hys z hz
    · rw [List.mem_singleton.mp hz, len_app, len_app]
      have := mok.2
      omega

end
end Q

set_option Elab.async false
set_option linter.all false
set_option maxRecDepth 100000
set_option maxHeartbeats 4000000
namespace Q
open PySem PySem.Spec PyProof.Rows L2 Z
theorem all_mk {P : Program} {w : World} {K : PySem.W.Frag} {h : Heap} {mg : Str → Option Value} {fa : Addr} (X : K.In h) (G : h.Ns mainGlobals mg) (hfa : mg "law" = some (.ref fa))
    {c_Network c_WebError c_OutOfRange c_BadLine c_BadVertex c_BadPrice c_TooMany f_wall f_WebError___init__ f_is_size f_is_price f_are_ends f_Network___init__ f_Network_size f_Network_edges f_Network_around f_Network_leaving f_Network_entering f_Network_other_end f_Network_with_price f_write_network f_is_number f_read_line f_read_edge f_read_network f_law_draws f_law_mix f_law_network f_law_text f_law_number f_law_row f_law_read f_law_told f_law_changed f_law : Addr}
    {od_wall an_wall od_WebError___init__ an_WebError___init__ od_is_size an_is_size od_is_price an_is_price od_are_ends an_are_ends od_Network___init__ an_Network___init__ od_Network_size an_Network_size od_Network_edges an_Network_edges od_Network_around an_Network_around od_Network_leaving an_Network_leaving od_Network_entering an_Network_entering od_Network_other_end an_Network_other_end od_Network_with_price an_Network_with_price od_write_network an_write_network od_is_number an_is_number od_read_line an_read_line od_read_edge an_read_edge od_read_network an_read_network od_law_draws an_law_draws od_law_mix an_law_mix od_law_network an_law_network od_law_text an_law_text od_law_number an_law_number od_law_row an_law_row od_law_read an_law_read od_law_told an_law_told od_law_changed an_law_changed od_law an_law : Option Addr} {sl_wall sl_WebError___init__ sl_is_size sl_is_price sl_are_ends sl_Network___init__ sl_Network_size sl_Network_edges sl_Network_around sl_Network_leaving sl_Network_entering sl_Network_other_end sl_Network_with_price sl_write_network sl_is_number sl_read_line sl_read_edge sl_read_network sl_law_draws sl_law_mix sl_law_network sl_law_text sl_law_number sl_law_row sl_law_read sl_law_told sl_law_changed sl_law : Array (Option Value)} {oc_wall kV_wall dc_wall pm_wall cd_wall ct_wall oc_WebError___init__ kV_WebError___init__ dc_WebError___init__ pm_WebError___init__ cd_WebError___init__ ct_WebError___init__ oc_is_size kV_is_size dc_is_size pm_is_size cd_is_size ct_is_size oc_is_price kV_is_price dc_is_price pm_is_price cd_is_price ct_is_price oc_are_ends kV_are_ends dc_are_ends pm_are_ends cd_are_ends ct_are_ends oc_Network___init__ kV_Network___init__ dc_Network___init__ pm_Network___init__ cd_Network___init__ ct_Network___init__ oc_Network_size kV_Network_size dc_Network_size pm_Network_size cd_Network_size ct_Network_size oc_Network_edges kV_Network_edges dc_Network_edges pm_Network_edges cd_Network_edges ct_Network_edges oc_Network_around kV_Network_around dc_Network_around pm_Network_around cd_Network_around ct_Network_around oc_Network_leaving kV_Network_leaving dc_Network_leaving pm_Network_leaving cd_Network_leaving ct_Network_leaving oc_Network_entering kV_Network_entering dc_Network_entering pm_Network_entering cd_Network_entering ct_Network_entering oc_Network_other_end kV_Network_other_end dc_Network_other_end pm_Network_other_end cd_Network_other_end ct_Network_other_end oc_Network_with_price kV_Network_with_price dc_Network_with_price pm_Network_with_price cd_Network_with_price ct_Network_with_price oc_write_network kV_write_network dc_write_network pm_write_network cd_write_network ct_write_network oc_is_number kV_is_number dc_is_number pm_is_number cd_is_number ct_is_number oc_read_line kV_read_line dc_read_line pm_read_line cd_read_line ct_read_line oc_read_edge kV_read_edge dc_read_edge pm_read_edge cd_read_edge ct_read_edge oc_read_network kV_read_network dc_read_network pm_read_network cd_read_network ct_read_network oc_law_draws kV_law_draws dc_law_draws pm_law_draws cd_law_draws ct_law_draws oc_law_mix kV_law_mix dc_law_mix pm_law_mix cd_law_mix ct_law_mix oc_law_network kV_law_network dc_law_network pm_law_network cd_law_network ct_law_network oc_law_text kV_law_text dc_law_text pm_law_text cd_law_text ct_law_text oc_law_number kV_law_number dc_law_number pm_law_number cd_law_number ct_law_number oc_law_row kV_law_row dc_law_row pm_law_row cd_law_row ct_law_row oc_law_read kV_law_read dc_law_read pm_law_read cd_law_read ct_law_read oc_law_told kV_law_told dc_law_told pm_law_told cd_law_told ct_law_told oc_law_changed kV_law_changed dc_law_changed pm_law_changed cd_law_changed ct_law_changed oc_law kV_law dc_law pm_law cd_law ct_law : Value}
    {nm_WebError qn_WebError nm_OutOfRange qn_OutOfRange nm_BadLine qn_BadLine nm_BadVertex qn_BadVertex nm_BadPrice qn_BadPrice nm_TooMany qn_TooMany : Str} {N_WebError N_OutOfRange N_BadLine N_BadVertex N_BadPrice N_TooMany : Addr} {bs_WebError bm_WebError sub_WebError bs_OutOfRange bm_OutOfRange sub_OutOfRange bs_BadLine bm_BadLine sub_BadLine bs_BadVertex bm_BadVertex sub_BadVertex bs_BadPrice bm_BadPrice sub_BadPrice bs_TooMany bm_TooMany sub_TooMany : List Value} {st_WebError st_OutOfRange st_BadLine st_BadVertex st_BadPrice st_TooMany : List Str} {ab_WebError ab_OutOfRange ab_BadLine ab_BadVertex ab_BadPrice ab_TooMany : Bool} {col_WebError col_OutOfRange col_BadLine col_BadVertex col_BadPrice col_TooMany : Option Bool} {dd_WebError dd_OutOfRange dd_BadLine dd_BadVertex dd_BadPrice dd_TooMany : Option Addr} {m0_WebError m1_WebError m2_WebError m3_WebError m5_WebError m0_OutOfRange m1_OutOfRange m2_OutOfRange m3_OutOfRange m5_OutOfRange m0_BadLine m1_BadLine m2_BadLine m3_BadLine m5_BadLine m0_BadVertex m1_BadVertex m2_BadVertex m3_BadVertex m5_BadVertex m0_BadPrice m1_BadPrice m2_BadPrice m3_BadPrice m5_BadPrice m0_TooMany m1_TooMany m2_TooMany m3_TooMany m5_TooMany : Option Value}
    {t_MOST_VERTICES t_MOST_EDGES t_MOST_PRICE t_MOST_DIGITS : Tok} 
    (aC_Network : PySem.W.nsIn K mainGlobals "Network" = some (some (.ref c_Network)))
    (aC_WebError : PySem.W.nsIn K mainGlobals "WebError" = some (some (.ref c_WebError)))
    (aC_OutOfRange : PySem.W.nsIn K mainGlobals "OutOfRange" = some (some (.ref c_OutOfRange)))
    (aC_BadLine : PySem.W.nsIn K mainGlobals "BadLine" = some (some (.ref c_BadLine)))
    (aC_BadVertex : PySem.W.nsIn K mainGlobals "BadVertex" = some (some (.ref c_BadVertex)))
    (aC_BadPrice : PySem.W.nsIn K mainGlobals "BadPrice" = some (some (.ref c_BadPrice)))
    (aC_TooMany : PySem.W.nsIn K mainGlobals "TooMany" = some (some (.ref c_TooMany)))
    (a_wall : PySem.W.nsIn K mainGlobals "_wall" = some (some (.ref f_wall)))
    (l_wall : K.lookup f_wall = some ⟨oc_wall, od_wall, .func (PySem.W.fnOf "_wall" "_wall" (defArgs s_wall) (defBody s_wall) (defScope s_wall) .none kV_wall dc_wall pm_wall an_wall cd_wall ct_wall), sl_wall⟩)
    (cdw_wall : PySem.W.codeIn K cd_wall "_wall" = true)
    (kp_wall : PySem.W.keepIn K (.ref f_wall) = true)
    (a_WebError___init__ : PySem.W.findIn K (.ref c_WebError) "__init__" = some (some (.ref f_WebError___init__)))
    (ty_WebError___init__ : PySem.W.typeIn K (.ref f_WebError___init__) = some (.type "function"))
    (l_WebError___init__ : K.lookup f_WebError___init__ = some ⟨oc_WebError___init__, od_WebError___init__, .func (PySem.W.fnOf "__init__" "WebError.__init__" (defArgs s_WebError___init__) (defBody s_WebError___init__) (defScope s_WebError___init__) .none kV_WebError___init__ dc_WebError___init__ pm_WebError___init__ an_WebError___init__ cd_WebError___init__ ct_WebError___init__), sl_WebError___init__⟩)
    (cdw_WebError___init__ : PySem.W.codeIn K cd_WebError___init__ "WebError.__init__" = true)
    (kp_WebError___init__ : PySem.W.keepIn K (.ref f_WebError___init__) = true)
    (a_is_size : PySem.W.nsIn K mainGlobals "is_size" = some (some (.ref f_is_size)))
    (l_is_size : K.lookup f_is_size = some ⟨oc_is_size, od_is_size, .func (PySem.W.fnOf "is_size" "is_size" (defArgs s_is_size) (defBody s_is_size) (defScope s_is_size) .none kV_is_size dc_is_size pm_is_size an_is_size cd_is_size ct_is_size), sl_is_size⟩)
    (cdw_is_size : PySem.W.codeIn K cd_is_size "is_size" = true)
    (kp_is_size : PySem.W.keepIn K (.ref f_is_size) = true)
    (a_is_price : PySem.W.nsIn K mainGlobals "is_price" = some (some (.ref f_is_price)))
    (l_is_price : K.lookup f_is_price = some ⟨oc_is_price, od_is_price, .func (PySem.W.fnOf "is_price" "is_price" (defArgs s_is_price) (defBody s_is_price) (defScope s_is_price) .none kV_is_price dc_is_price pm_is_price an_is_price cd_is_price ct_is_price), sl_is_price⟩)
    (cdw_is_price : PySem.W.codeIn K cd_is_price "is_price" = true)
    (kp_is_price : PySem.W.keepIn K (.ref f_is_price) = true)
    (a_are_ends : PySem.W.nsIn K mainGlobals "are_ends" = some (some (.ref f_are_ends)))
    (l_are_ends : K.lookup f_are_ends = some ⟨oc_are_ends, od_are_ends, .func (PySem.W.fnOf "are_ends" "are_ends" (defArgs s_are_ends) (defBody s_are_ends) (defScope s_are_ends) .none kV_are_ends dc_are_ends pm_are_ends an_are_ends cd_are_ends ct_are_ends), sl_are_ends⟩)
    (cdw_are_ends : PySem.W.codeIn K cd_are_ends "are_ends" = true)
    (kp_are_ends : PySem.W.keepIn K (.ref f_are_ends) = true)
    (a_Network___init__ : PySem.W.findIn K (.ref c_Network) "__init__" = some (some (.ref f_Network___init__)))
    (i_Network___init__ : PySem.W.isFn K (.ref f_Network___init__) = true)
    (l_Network___init__ : K.lookup f_Network___init__ = some ⟨oc_Network___init__, od_Network___init__, .func (PySem.W.fnOf "__init__" "Network.__init__" (defArgs s_Network___init__) (defBody s_Network___init__) (defScope s_Network___init__) .none kV_Network___init__ dc_Network___init__ pm_Network___init__ an_Network___init__ cd_Network___init__ ct_Network___init__), sl_Network___init__⟩)
    (cdw_Network___init__ : PySem.W.codeIn K cd_Network___init__ "Network.__init__" = true)
    (kp_Network___init__ : PySem.W.keepIn K (.ref f_Network___init__) = true)
    (a_Network_size : PySem.W.findIn K (.ref c_Network) "size" = some (some (.ref f_Network_size)))
    (i_Network_size : PySem.W.isFn K (.ref f_Network_size) = true)
    (l_Network_size : K.lookup f_Network_size = some ⟨oc_Network_size, od_Network_size, .func (PySem.W.fnOf "size" "Network.size" (defArgs s_Network_size) (defBody s_Network_size) (defScope s_Network_size) .none kV_Network_size dc_Network_size pm_Network_size an_Network_size cd_Network_size ct_Network_size), sl_Network_size⟩)
    (cdw_Network_size : PySem.W.codeIn K cd_Network_size "Network.size" = true)
    (kp_Network_size : PySem.W.keepIn K (.ref f_Network_size) = true)
    (a_Network_edges : PySem.W.findIn K (.ref c_Network) "edges" = some (some (.ref f_Network_edges)))
    (i_Network_edges : PySem.W.isFn K (.ref f_Network_edges) = true)
    (l_Network_edges : K.lookup f_Network_edges = some ⟨oc_Network_edges, od_Network_edges, .func (PySem.W.fnOf "edges" "Network.edges" (defArgs s_Network_edges) (defBody s_Network_edges) (defScope s_Network_edges) .none kV_Network_edges dc_Network_edges pm_Network_edges an_Network_edges cd_Network_edges ct_Network_edges), sl_Network_edges⟩)
    (cdw_Network_edges : PySem.W.codeIn K cd_Network_edges "Network.edges" = true)
    (kp_Network_edges : PySem.W.keepIn K (.ref f_Network_edges) = true)
    (a_Network_around : PySem.W.findIn K (.ref c_Network) "around" = some (some (.ref f_Network_around)))
    (i_Network_around : PySem.W.isFn K (.ref f_Network_around) = true)
    (l_Network_around : K.lookup f_Network_around = some ⟨oc_Network_around, od_Network_around, .func (PySem.W.fnOf "around" "Network.around" (defArgs s_Network_around) (defBody s_Network_around) (defScope s_Network_around) .none kV_Network_around dc_Network_around pm_Network_around an_Network_around cd_Network_around ct_Network_around), sl_Network_around⟩)
    (cdw_Network_around : PySem.W.codeIn K cd_Network_around "Network.around" = true)
    (kp_Network_around : PySem.W.keepIn K (.ref f_Network_around) = true)
    (a_Network_leaving : PySem.W.findIn K (.ref c_Network) "leaving" = some (some (.ref f_Network_leaving)))
    (i_Network_leaving : PySem.W.isFn K (.ref f_Network_leaving) = true)
    (l_Network_leaving : K.lookup f_Network_leaving = some ⟨oc_Network_leaving, od_Network_leaving, .func (PySem.W.fnOf "leaving" "Network.leaving" (defArgs s_Network_leaving) (defBody s_Network_leaving) (defScope s_Network_leaving) .none kV_Network_leaving dc_Network_leaving pm_Network_leaving an_Network_leaving cd_Network_leaving ct_Network_leaving), sl_Network_leaving⟩)
    (cdw_Network_leaving : PySem.W.codeIn K cd_Network_leaving "Network.leaving" = true)
    (kp_Network_leaving : PySem.W.keepIn K (.ref f_Network_leaving) = true)
    (a_Network_entering : PySem.W.findIn K (.ref c_Network) "entering" = some (some (.ref f_Network_entering)))
    (i_Network_entering : PySem.W.isFn K (.ref f_Network_entering) = true)
    (l_Network_entering : K.lookup f_Network_entering = some ⟨oc_Network_entering, od_Network_entering, .func (PySem.W.fnOf "entering" "Network.entering" (defArgs s_Network_entering) (defBody s_Network_entering) (defScope s_Network_entering) .none kV_Network_entering dc_Network_entering pm_Network_entering an_Network_entering cd_Network_entering ct_Network_entering), sl_Network_entering⟩)
    (cdw_Network_entering : PySem.W.codeIn K cd_Network_entering "Network.entering" = true)
    (kp_Network_entering : PySem.W.keepIn K (.ref f_Network_entering) = true)
    (a_Network_other_end : PySem.W.findIn K (.ref c_Network) "other_end" = some (some (.ref f_Network_other_end)))
    (i_Network_other_end : PySem.W.isFn K (.ref f_Network_other_end) = true)
    (l_Network_other_end : K.lookup f_Network_other_end = some ⟨oc_Network_other_end, od_Network_other_end, .func (PySem.W.fnOf "other_end" "Network.other_end" (defArgs s_Network_other_end) (defBody s_Network_other_end) (defScope s_Network_other_end) .none kV_Network_other_end dc_Network_other_end pm_Network_other_end an_Network_other_end cd_Network_other_end ct_Network_other_end), sl_Network_other_end⟩)
    (cdw_Network_other_end : PySem.W.codeIn K cd_Network_other_end "Network.other_end" = true)
    (kp_Network_other_end : PySem.W.keepIn K (.ref f_Network_other_end) = true)
    (a_Network_with_price : PySem.W.findIn K (.ref c_Network) "with_price" = some (some (.ref f_Network_with_price)))
    (i_Network_with_price : PySem.W.isFn K (.ref f_Network_with_price) = true)
    (l_Network_with_price : K.lookup f_Network_with_price = some ⟨oc_Network_with_price, od_Network_with_price, .func (PySem.W.fnOf "with_price" "Network.with_price" (defArgs s_Network_with_price) (defBody s_Network_with_price) (defScope s_Network_with_price) .none kV_Network_with_price dc_Network_with_price pm_Network_with_price an_Network_with_price cd_Network_with_price ct_Network_with_price), sl_Network_with_price⟩)
    (cdw_Network_with_price : PySem.W.codeIn K cd_Network_with_price "Network.with_price" = true)
    (kp_Network_with_price : PySem.W.keepIn K (.ref f_Network_with_price) = true)
    (a_write_network : PySem.W.nsIn K mainGlobals "write_network" = some (some (.ref f_write_network)))
    (l_write_network : K.lookup f_write_network = some ⟨oc_write_network, od_write_network, .func (PySem.W.fnOf "write_network" "write_network" (defArgs s_write_network) (defBody s_write_network) (defScope s_write_network) .none kV_write_network dc_write_network pm_write_network an_write_network cd_write_network ct_write_network), sl_write_network⟩)
    (cdw_write_network : PySem.W.codeIn K cd_write_network "write_network" = true)
    (kp_write_network : PySem.W.keepIn K (.ref f_write_network) = true)
    (a_is_number : PySem.W.nsIn K mainGlobals "is_number" = some (some (.ref f_is_number)))
    (l_is_number : K.lookup f_is_number = some ⟨oc_is_number, od_is_number, .func (PySem.W.fnOf "is_number" "is_number" (defArgs s_is_number) (defBody s_is_number) (defScope s_is_number) .none kV_is_number dc_is_number pm_is_number an_is_number cd_is_number ct_is_number), sl_is_number⟩)
    (cdw_is_number : PySem.W.codeIn K cd_is_number "is_number" = true)
    (kp_is_number : PySem.W.keepIn K (.ref f_is_number) = true)
    (a_read_line : PySem.W.nsIn K mainGlobals "read_line" = some (some (.ref f_read_line)))
    (l_read_line : K.lookup f_read_line = some ⟨oc_read_line, od_read_line, .func (PySem.W.fnOf "read_line" "read_line" (defArgs s_read_line) (defBody s_read_line) (defScope s_read_line) .none kV_read_line dc_read_line pm_read_line an_read_line cd_read_line ct_read_line), sl_read_line⟩)
    (cdw_read_line : PySem.W.codeIn K cd_read_line "read_line" = true)
    (kp_read_line : PySem.W.keepIn K (.ref f_read_line) = true)
    (a_read_edge : PySem.W.nsIn K mainGlobals "read_edge" = some (some (.ref f_read_edge)))
    (l_read_edge : K.lookup f_read_edge = some ⟨oc_read_edge, od_read_edge, .func (PySem.W.fnOf "read_edge" "read_edge" (defArgs s_read_edge) (defBody s_read_edge) (defScope s_read_edge) .none kV_read_edge dc_read_edge pm_read_edge an_read_edge cd_read_edge ct_read_edge), sl_read_edge⟩)
    (cdw_read_edge : PySem.W.codeIn K cd_read_edge "read_edge" = true)
    (kp_read_edge : PySem.W.keepIn K (.ref f_read_edge) = true)
    (a_read_network : PySem.W.nsIn K mainGlobals "read_network" = some (some (.ref f_read_network)))
    (l_read_network : K.lookup f_read_network = some ⟨oc_read_network, od_read_network, .func (PySem.W.fnOf "read_network" "read_network" (defArgs s_read_network) (defBody s_read_network) (defScope s_read_network) .none kV_read_network dc_read_network pm_read_network an_read_network cd_read_network ct_read_network), sl_read_network⟩)
    (cdw_read_network : PySem.W.codeIn K cd_read_network "read_network" = true)
    (kp_read_network : PySem.W.keepIn K (.ref f_read_network) = true)
    (a_law_draws : PySem.W.nsIn K mainGlobals "_law_draws" = some (some (.ref f_law_draws)))
    (l_law_draws : K.lookup f_law_draws = some ⟨oc_law_draws, od_law_draws, .func (PySem.W.fnOf "_law_draws" "_law_draws" (defArgs s_law_draws) (defBody s_law_draws) (defScope s_law_draws) .none kV_law_draws dc_law_draws pm_law_draws an_law_draws cd_law_draws ct_law_draws), sl_law_draws⟩)
    (cdw_law_draws : PySem.W.codeIn K cd_law_draws "_law_draws" = true)
    (kp_law_draws : PySem.W.keepIn K (.ref f_law_draws) = true)
    (a_law_mix : PySem.W.nsIn K mainGlobals "_law_mix" = some (some (.ref f_law_mix)))
    (l_law_mix : K.lookup f_law_mix = some ⟨oc_law_mix, od_law_mix, .func (PySem.W.fnOf "_law_mix" "_law_mix" (defArgs s_law_mix) (defBody s_law_mix) (defScope s_law_mix) .none kV_law_mix dc_law_mix pm_law_mix an_law_mix cd_law_mix ct_law_mix), sl_law_mix⟩)
    (cdw_law_mix : PySem.W.codeIn K cd_law_mix "_law_mix" = true)
    (kp_law_mix : PySem.W.keepIn K (.ref f_law_mix) = true)
    (a_law_network : PySem.W.nsIn K mainGlobals "_law_network" = some (some (.ref f_law_network)))
    (l_law_network : K.lookup f_law_network = some ⟨oc_law_network, od_law_network, .func (PySem.W.fnOf "_law_network" "_law_network" (defArgs s_law_network) (defBody s_law_network) (defScope s_law_network) .none kV_law_network dc_law_network pm_law_network an_law_network cd_law_network ct_law_network), sl_law_network⟩)
    (cdw_law_network : PySem.W.codeIn K cd_law_network "_law_network" = true)
    (kp_law_network : PySem.W.keepIn K (.ref f_law_network) = true)
    (a_law_text : PySem.W.nsIn K mainGlobals "_law_text" = some (some (.ref f_law_text)))
    (l_law_text : K.lookup f_law_text = some ⟨oc_law_text, od_law_text, .func (PySem.W.fnOf "_law_text" "_law_text" (defArgs s_law_text) (defBody s_law_text) (defScope s_law_text) .none kV_law_text dc_law_text pm_law_text an_law_text cd_law_text ct_law_text), sl_law_text⟩)
    (cdw_law_text : PySem.W.codeIn K cd_law_text "_law_text" = true)
    (kp_law_text : PySem.W.keepIn K (.ref f_law_text) = true)
    (a_law_number : PySem.W.nsIn K mainGlobals "_law_number" = some (some (.ref f_law_number)))
    (l_law_number : K.lookup f_law_number = some ⟨oc_law_number, od_law_number, .func (PySem.W.fnOf "_law_number" "_law_number" (defArgs s_law_number) (defBody s_law_number) (defScope s_law_number) .none kV_law_number dc_law_number pm_law_number an_law_number cd_law_number ct_law_number), sl_law_number⟩)
    (cdw_law_number : PySem.W.codeIn K cd_law_number "_law_number" = true)
    (kp_law_number : PySem.W.keepIn K (.ref f_law_number) = true)
    (a_law_row : PySem.W.nsIn K mainGlobals "_law_row" = some (some (.ref f_law_row)))
    (l_law_row : K.lookup f_law_row = some ⟨oc_law_row, od_law_row, .func (PySem.W.fnOf "_law_row" "_law_row" (defArgs s_law_row) (defBody s_law_row) (defScope s_law_row) .none kV_law_row dc_law_row pm_law_row an_law_row cd_law_row ct_law_row), sl_law_row⟩)
    (cdw_law_row : PySem.W.codeIn K cd_law_row "_law_row" = true)
    (kp_law_row : PySem.W.keepIn K (.ref f_law_row) = true)
    (a_law_read : PySem.W.nsIn K mainGlobals "_law_read" = some (some (.ref f_law_read)))
    (l_law_read : K.lookup f_law_read = some ⟨oc_law_read, od_law_read, .func (PySem.W.fnOf "_law_read" "_law_read" (defArgs s_law_read) (defBody s_law_read) (defScope s_law_read) .none kV_law_read dc_law_read pm_law_read an_law_read cd_law_read ct_law_read), sl_law_read⟩)
    (cdw_law_read : PySem.W.codeIn K cd_law_read "_law_read" = true)
    (kp_law_read : PySem.W.keepIn K (.ref f_law_read) = true)
    (a_law_told : PySem.W.nsIn K mainGlobals "_law_told" = some (some (.ref f_law_told)))
    (l_law_told : K.lookup f_law_told = some ⟨oc_law_told, od_law_told, .func (PySem.W.fnOf "_law_told" "_law_told" (defArgs s_law_told) (defBody s_law_told) (defScope s_law_told) .none kV_law_told dc_law_told pm_law_told an_law_told cd_law_told ct_law_told), sl_law_told⟩)
    (cdw_law_told : PySem.W.codeIn K cd_law_told "_law_told" = true)
    (kp_law_told : PySem.W.keepIn K (.ref f_law_told) = true)
    (a_law_changed : PySem.W.nsIn K mainGlobals "_law_changed" = some (some (.ref f_law_changed)))
    (l_law_changed : K.lookup f_law_changed = some ⟨oc_law_changed, od_law_changed, .func (PySem.W.fnOf "_law_changed" "_law_changed" (defArgs s_law_changed) (defBody s_law_changed) (defScope s_law_changed) .none kV_law_changed dc_law_changed pm_law_changed an_law_changed cd_law_changed ct_law_changed), sl_law_changed⟩)
    (cdw_law_changed : PySem.W.codeIn K cd_law_changed "_law_changed" = true)
    (kp_law_changed : PySem.W.keepIn K (.ref f_law_changed) = true)
    (a_law : PySem.W.nsIn K mainGlobals "law" = some (some (.ref f_law)))
    (l_law : K.lookup f_law = some ⟨oc_law, od_law, .func (PySem.W.fnOf "law" "law" (defArgs s_law) (defBody s_law) (defScope s_law) .none kV_law dc_law pm_law an_law cd_law ct_law), sl_law⟩)
    (cdw_law : PySem.W.codeIn K cd_law "law" = true)
    (kp_law : PySem.W.keepIn K (.ref f_law) = true)
    (pg_Network : PySem.W.plainGet K c_Network Str.empty = true)
    (hd_Network : PySem.W.hasDictIn K c_Network = true)
    (po_Network : PySem.W.plainOver K c_Network = true)
    (sa_Network : PySem.W.findIn K (.ref c_Network) "__setattr__" = some (some (.builtin "object.__setattr__")))
    (mk_Network : PySem.W.makesIn K c_Network = true)
    (kc_Network : PySem.W.keepIn K (.ref c_Network) = true)
    (na_Network__size : PySem.W.findIn K (.ref c_Network) "_size" = some none)
    (na_Network__edges : PySem.W.findIn K (.ref c_Network) "_edges" = some none)
    (gt : PySem.W.specialIn K (.builtin "object.__class__") "__get__" = some (some (.builtin "getset_descriptor.__get__")))
    (tk : PySem.W.takesIn K (.builtin "object.__class__") = some true)
    (ib : PySem.W.isClsIn K c_WebError = true)
    (xL_WebError : K.lookup c_WebError = some (excClassObj nm_WebError qn_WebError c_WebError N_WebError bs_WebError bm_WebError true st_WebError sub_WebError ab_WebError col_WebError dd_WebError m0_WebError m1_WebError m2_WebError m3_WebError m5_WebError "ValueError.__new__"))
    (rv_WebError : PySem.HandSPX.refsVE bm_WebError = true)
    (sa_WebError : PySem.W.findIn K (.ref c_WebError) "__setattr__" = some (some (.builtin "object.__setattr__")))
    (ga_WebError : PySem.W.findIn K (.ref c_WebError) "__getattribute__" = some (some (.builtin "BaseException.__getattribute__")))
    (gg_WebError : PySem.W.findIn K (.ref c_WebError) "__getattr__" = some none)
    (nb_WebError : PySem.W.findIn K (.ref c_WebError) "at" = some none)
    (in_WebError : PySem.W.findIn K (.ref c_WebError) "__init__" = some (some (.ref f_WebError___init__)))
    (eC_WebError : PySem.W.subIn K (.ref c_WebError) (.type "BaseException") = some true)
    (tC_WebError : PySem.W.typeIn K (.ref c_WebError) = some (.type "type"))
    (hC_WebError : PySem.W.hasDictIn K c_WebError = true)
    (kC_WebError : PySem.W.keepIn K (.ref c_WebError) = true)
    (cl_WebError : PySem.W.findIn K (.ref c_WebError) "__class__" = some (some (.builtin "object.__class__")))
    (mr_WebError : PySem.W.mroIn K c_WebError (.type "object") = some true)
    (xL_OutOfRange : K.lookup c_OutOfRange = some (excClassObj nm_OutOfRange qn_OutOfRange c_OutOfRange N_OutOfRange bs_OutOfRange bm_OutOfRange true st_OutOfRange sub_OutOfRange ab_OutOfRange col_OutOfRange dd_OutOfRange m0_OutOfRange m1_OutOfRange m2_OutOfRange m3_OutOfRange m5_OutOfRange "ValueError.__new__"))
    (rv_OutOfRange : PySem.HandSPX.refsVE bm_OutOfRange = true)
    (sa_OutOfRange : PySem.W.findIn K (.ref c_OutOfRange) "__setattr__" = some (some (.builtin "object.__setattr__")))
    (ga_OutOfRange : PySem.W.findIn K (.ref c_OutOfRange) "__getattribute__" = some (some (.builtin "BaseException.__getattribute__")))
    (gg_OutOfRange : PySem.W.findIn K (.ref c_OutOfRange) "__getattr__" = some none)
    (nb_OutOfRange : PySem.W.findIn K (.ref c_OutOfRange) "at" = some none)
    (in_OutOfRange : PySem.W.findIn K (.ref c_OutOfRange) "__init__" = some (some (.ref f_WebError___init__)))
    (eC_OutOfRange : PySem.W.subIn K (.ref c_OutOfRange) (.type "BaseException") = some true)
    (tC_OutOfRange : PySem.W.typeIn K (.ref c_OutOfRange) = some (.type "type"))
    (hC_OutOfRange : PySem.W.hasDictIn K c_OutOfRange = true)
    (kC_OutOfRange : PySem.W.keepIn K (.ref c_OutOfRange) = true)
    (cl_OutOfRange : PySem.W.findIn K (.ref c_OutOfRange) "__class__" = some (some (.builtin "object.__class__")))
    (mr_OutOfRange : PySem.W.mroIn K c_OutOfRange (.type "object") = some true)
    (sb_OutOfRange : PySem.W.subIn K (.ref c_OutOfRange) (.ref c_WebError) = some true)
    (is_OutOfRange_OutOfRange : PySem.W.kitOne K (.ref c_OutOfRange) (.ref c_OutOfRange) = some true)
    (is_OutOfRange_BadLine : PySem.W.kitOne K (.ref c_OutOfRange) (.ref c_BadLine) = some false)
    (is_OutOfRange_BadVertex : PySem.W.kitOne K (.ref c_OutOfRange) (.ref c_BadVertex) = some false)
    (is_OutOfRange_BadPrice : PySem.W.kitOne K (.ref c_OutOfRange) (.ref c_BadPrice) = some false)
    (is_OutOfRange_TooMany : PySem.W.kitOne K (.ref c_OutOfRange) (.ref c_TooMany) = some false)
    (xL_BadLine : K.lookup c_BadLine = some (excClassObj nm_BadLine qn_BadLine c_BadLine N_BadLine bs_BadLine bm_BadLine true st_BadLine sub_BadLine ab_BadLine col_BadLine dd_BadLine m0_BadLine m1_BadLine m2_BadLine m3_BadLine m5_BadLine "ValueError.__new__"))
    (rv_BadLine : PySem.HandSPX.refsVE bm_BadLine = true)
    (sa_BadLine : PySem.W.findIn K (.ref c_BadLine) "__setattr__" = some (some (.builtin "object.__setattr__")))
    (ga_BadLine : PySem.W.findIn K (.ref c_BadLine) "__getattribute__" = some (some (.builtin "BaseException.__getattribute__")))
    (gg_BadLine : PySem.W.findIn K (.ref c_BadLine) "__getattr__" = some none)
    (nb_BadLine : PySem.W.findIn K (.ref c_BadLine) "at" = some none)
    (in_BadLine : PySem.W.findIn K (.ref c_BadLine) "__init__" = some (some (.ref f_WebError___init__)))
    (eC_BadLine : PySem.W.subIn K (.ref c_BadLine) (.type "BaseException") = some true)
    (tC_BadLine : PySem.W.typeIn K (.ref c_BadLine) = some (.type "type"))
    (hC_BadLine : PySem.W.hasDictIn K c_BadLine = true)
    (kC_BadLine : PySem.W.keepIn K (.ref c_BadLine) = true)
    (cl_BadLine : PySem.W.findIn K (.ref c_BadLine) "__class__" = some (some (.builtin "object.__class__")))
    (mr_BadLine : PySem.W.mroIn K c_BadLine (.type "object") = some true)
    (sb_BadLine : PySem.W.subIn K (.ref c_BadLine) (.ref c_WebError) = some true)
    (is_BadLine_OutOfRange : PySem.W.kitOne K (.ref c_BadLine) (.ref c_OutOfRange) = some false)
    (is_BadLine_BadLine : PySem.W.kitOne K (.ref c_BadLine) (.ref c_BadLine) = some true)
    (is_BadLine_BadVertex : PySem.W.kitOne K (.ref c_BadLine) (.ref c_BadVertex) = some false)
    (is_BadLine_BadPrice : PySem.W.kitOne K (.ref c_BadLine) (.ref c_BadPrice) = some false)
    (is_BadLine_TooMany : PySem.W.kitOne K (.ref c_BadLine) (.ref c_TooMany) = some false)
    (xL_BadVertex : K.lookup c_BadVertex = some (excClassObj nm_BadVertex qn_BadVertex c_BadVertex N_BadVertex bs_BadVertex bm_BadVertex true st_BadVertex sub_BadVertex ab_BadVertex col_BadVertex dd_BadVertex m0_BadVertex m1_BadVertex m2_BadVertex m3_BadVertex m5_BadVertex "ValueError.__new__"))
    (rv_BadVertex : PySem.HandSPX.refsVE bm_BadVertex = true)
    (sa_BadVertex : PySem.W.findIn K (.ref c_BadVertex) "__setattr__" = some (some (.builtin "object.__setattr__")))
    (ga_BadVertex : PySem.W.findIn K (.ref c_BadVertex) "__getattribute__" = some (some (.builtin "BaseException.__getattribute__")))
    (gg_BadVertex : PySem.W.findIn K (.ref c_BadVertex) "__getattr__" = some none)
    (nb_BadVertex : PySem.W.findIn K (.ref c_BadVertex) "at" = some none)
    (in_BadVertex : PySem.W.findIn K (.ref c_BadVertex) "__init__" = some (some (.ref f_WebError___init__)))
    (eC_BadVertex : PySem.W.subIn K (.ref c_BadVertex) (.type "BaseException") = some true)
    (tC_BadVertex : PySem.W.typeIn K (.ref c_BadVertex) = some (.type "type"))
    (hC_BadVertex : PySem.W.hasDictIn K c_BadVertex = true)
    (kC_BadVertex : PySem.W.keepIn K (.ref c_BadVertex) = true)
    (cl_BadVertex : PySem.W.findIn K (.ref c_BadVertex) "__class__" = some (some (.builtin "object.__class__")))
    (mr_BadVertex : PySem.W.mroIn K c_BadVertex (.type "object") = some true)
    (sb_BadVertex : PySem.W.subIn K (.ref c_BadVertex) (.ref c_WebError) = some true)
    (is_BadVertex_OutOfRange : PySem.W.kitOne K (.ref c_BadVertex) (.ref c_OutOfRange) = some false)
    (is_BadVertex_BadLine : PySem.W.kitOne K (.ref c_BadVertex) (.ref c_BadLine) = some false)
    (is_BadVertex_BadVertex : PySem.W.kitOne K (.ref c_BadVertex) (.ref c_BadVertex) = some true)
    (is_BadVertex_BadPrice : PySem.W.kitOne K (.ref c_BadVertex) (.ref c_BadPrice) = some false)
    (is_BadVertex_TooMany : PySem.W.kitOne K (.ref c_BadVertex) (.ref c_TooMany) = some false)
    (xL_BadPrice : K.lookup c_BadPrice = some (excClassObj nm_BadPrice qn_BadPrice c_BadPrice N_BadPrice bs_BadPrice bm_BadPrice true st_BadPrice sub_BadPrice ab_BadPrice col_BadPrice dd_BadPrice m0_BadPrice m1_BadPrice m2_BadPrice m3_BadPrice m5_BadPrice "ValueError.__new__"))
    (rv_BadPrice : PySem.HandSPX.refsVE bm_BadPrice = true)
    (sa_BadPrice : PySem.W.findIn K (.ref c_BadPrice) "__setattr__" = some (some (.builtin "object.__setattr__")))
    (ga_BadPrice : PySem.W.findIn K (.ref c_BadPrice) "__getattribute__" = some (some (.builtin "BaseException.__getattribute__")))
    (gg_BadPrice : PySem.W.findIn K (.ref c_BadPrice) "__getattr__" = some none)
    (nb_BadPrice : PySem.W.findIn K (.ref c_BadPrice) "at" = some none)
    (in_BadPrice : PySem.W.findIn K (.ref c_BadPrice) "__init__" = some (some (.ref f_WebError___init__)))
    (eC_BadPrice : PySem.W.subIn K (.ref c_BadPrice) (.type "BaseException") = some true)
    (tC_BadPrice : PySem.W.typeIn K (.ref c_BadPrice) = some (.type "type"))
    (hC_BadPrice : PySem.W.hasDictIn K c_BadPrice = true)
    (kC_BadPrice : PySem.W.keepIn K (.ref c_BadPrice) = true)
    (cl_BadPrice : PySem.W.findIn K (.ref c_BadPrice) "__class__" = some (some (.builtin "object.__class__")))
    (mr_BadPrice : PySem.W.mroIn K c_BadPrice (.type "object") = some true)
    (sb_BadPrice : PySem.W.subIn K (.ref c_BadPrice) (.ref c_WebError) = some true)
    (is_BadPrice_OutOfRange : PySem.W.kitOne K (.ref c_BadPrice) (.ref c_OutOfRange) = some false)
    (is_BadPrice_BadLine : PySem.W.kitOne K (.ref c_BadPrice) (.ref c_BadLine) = some false)
    (is_BadPrice_BadVertex : PySem.W.kitOne K (.ref c_BadPrice) (.ref c_BadVertex) = some false)
    (is_BadPrice_BadPrice : PySem.W.kitOne K (.ref c_BadPrice) (.ref c_BadPrice) = some true)
    (is_BadPrice_TooMany : PySem.W.kitOne K (.ref c_BadPrice) (.ref c_TooMany) = some false)
    (xL_TooMany : K.lookup c_TooMany = some (excClassObj nm_TooMany qn_TooMany c_TooMany N_TooMany bs_TooMany bm_TooMany true st_TooMany sub_TooMany ab_TooMany col_TooMany dd_TooMany m0_TooMany m1_TooMany m2_TooMany m3_TooMany m5_TooMany "ValueError.__new__"))
    (rv_TooMany : PySem.HandSPX.refsVE bm_TooMany = true)
    (sa_TooMany : PySem.W.findIn K (.ref c_TooMany) "__setattr__" = some (some (.builtin "object.__setattr__")))
    (ga_TooMany : PySem.W.findIn K (.ref c_TooMany) "__getattribute__" = some (some (.builtin "BaseException.__getattribute__")))
    (gg_TooMany : PySem.W.findIn K (.ref c_TooMany) "__getattr__" = some none)
    (nb_TooMany : PySem.W.findIn K (.ref c_TooMany) "at" = some none)
    (in_TooMany : PySem.W.findIn K (.ref c_TooMany) "__init__" = some (some (.ref f_WebError___init__)))
    (eC_TooMany : PySem.W.subIn K (.ref c_TooMany) (.type "BaseException") = some true)
    (tC_TooMany : PySem.W.typeIn K (.ref c_TooMany) = some (.type "type"))
    (hC_TooMany : PySem.W.hasDictIn K c_TooMany = true)
    (kC_TooMany : PySem.W.keepIn K (.ref c_TooMany) = true)
    (cl_TooMany : PySem.W.findIn K (.ref c_TooMany) "__class__" = some (some (.builtin "object.__class__")))
    (mr_TooMany : PySem.W.mroIn K c_TooMany (.type "object") = some true)
    (sb_TooMany : PySem.W.subIn K (.ref c_TooMany) (.ref c_WebError) = some true)
    (is_TooMany_OutOfRange : PySem.W.kitOne K (.ref c_TooMany) (.ref c_OutOfRange) = some false)
    (is_TooMany_BadLine : PySem.W.kitOne K (.ref c_TooMany) (.ref c_BadLine) = some false)
    (is_TooMany_BadVertex : PySem.W.kitOne K (.ref c_TooMany) (.ref c_BadVertex) = some false)
    (is_TooMany_BadPrice : PySem.W.kitOne K (.ref c_TooMany) (.ref c_BadPrice) = some false)
    (is_TooMany_TooMany : PySem.W.kitOne K (.ref c_TooMany) (.ref c_TooMany) = some true)
    (z_len : PySem.W.nsIn K mainGlobals "len" = some none)
    (z_range : PySem.W.nsIn K mainGlobals "range" = some none)
    (z_min : PySem.W.nsIn K mainGlobals "min" = some none)
    (z_abs : PySem.W.nsIn K mainGlobals "abs" = some none)
    (z_int : PySem.W.nsIn K mainGlobals "int" = some none)
    (z_list : PySem.W.nsIn K mainGlobals "list" = some none)
    (z_enumerate : PySem.W.nsIn K mainGlobals "enumerate" = some none)
    (z_isinstance : PySem.W.nsIn K mainGlobals "isinstance" = some none)
    (z_str : PySem.W.nsIn K mainGlobals "str" = some none)
    (z_tuple : PySem.W.nsIn K mainGlobals "tuple" = some none)
    (z_ValueError : PySem.W.nsIn K mainGlobals "ValueError" = some none)
    (k_MOST_VERTICES : PySem.W.nsIn K mainGlobals "MOST_VERTICES" = some (some (.int 40 t_MOST_VERTICES)))
    (k_MOST_EDGES : PySem.W.nsIn K mainGlobals "MOST_EDGES" = some (some (.int 200 t_MOST_EDGES)))
    (k_MOST_PRICE : PySem.W.nsIn K mainGlobals "MOST_PRICE" = some (some (.int 1048576 t_MOST_PRICE)))
    (k_MOST_DIGITS : PySem.W.nsIn K mainGlobals "MOST_DIGITS" = some (some (.int 7 t_MOST_DIGITS)))
    : ∃ fd : FuncData, (∀ (s : Shared) (u : Value), BindsTo s fd ⟨[u], []⟩ [("script", u)]) ∧ ∀ base : Heap, K.In base → base.Ns mainGlobals mg → Z.RunAt P w K mg base (L2.CX P w) 7 fa fd ["script"] (spLaw K) := by
  have e := hfa.symm.trans (PySem.W.mg_of X G a_law)
  have e2 : f_law = fa := by cases e; rfl
  subst e2
  have F_wall := fun_mk (st := s_wall) l_wall cdw_wall kp_wall
  have b_wall := F_wall.binds (ps := ["k"]) fun _ _ _ _ _ _ us hl => match us, hl with | [_], _ => rfl
  have F_WebError___init__ := fun_mk (st := s_WebError___init__) l_WebError___init__ cdw_WebError___init__ kp_WebError___init__
  have b_WebError___init__ := F_WebError___init__.binds (ps := ["self", "at"]) fun _ _ _ _ _ _ us hl => match us, hl with | [_, _], _ => rfl
  have F_is_size := fun_mk (st := s_is_size) l_is_size cdw_is_size kp_is_size
  have b_is_size := F_is_size.binds (ps := ["size"]) fun _ _ _ _ _ _ us hl => match us, hl with | [_], _ => rfl
  have F_is_price := fun_mk (st := s_is_price) l_is_price cdw_is_price kp_is_price
  have b_is_price := F_is_price.binds (ps := ["price"]) fun _ _ _ _ _ _ us hl => match us, hl with | [_], _ => rfl
  have F_are_ends := fun_mk (st := s_are_ends) l_are_ends cdw_are_ends kp_are_ends
  have b_are_ends := F_are_ends.binds (ps := ["size", "u", "v"]) fun _ _ _ _ _ _ us hl => match us, hl with | [_, _, _], _ => rfl
  have F_Network___init__ := fun_mk (st := s_Network___init__) l_Network___init__ cdw_Network___init__ kp_Network___init__
  have b_Network___init__ := F_Network___init__.binds (ps := ["self", "size", "edges"]) fun _ _ _ _ _ _ us hl => match us, hl with | [_, _, _], _ => rfl
  have F_Network_size := fun_mk (st := s_Network_size) l_Network_size cdw_Network_size kp_Network_size
  have b_Network_size := F_Network_size.binds (ps := ["self"]) fun _ _ _ _ _ _ us hl => match us, hl with | [_], _ => rfl
  have F_Network_edges := fun_mk (st := s_Network_edges) l_Network_edges cdw_Network_edges kp_Network_edges
  have b_Network_edges := F_Network_edges.binds (ps := ["self"]) fun _ _ _ _ _ _ us hl => match us, hl with | [_], _ => rfl
  have F_Network_around := fun_mk (st := s_Network_around) l_Network_around cdw_Network_around kp_Network_around
  have b_Network_around := F_Network_around.binds (ps := ["self", "vertex"]) fun _ _ _ _ _ _ us hl => match us, hl with | [_, _], _ => rfl
  have F_Network_leaving := fun_mk (st := s_Network_leaving) l_Network_leaving cdw_Network_leaving kp_Network_leaving
  have b_Network_leaving := F_Network_leaving.binds (ps := ["self", "vertex"]) fun _ _ _ _ _ _ us hl => match us, hl with | [_, _], _ => rfl
  have F_Network_entering := fun_mk (st := s_Network_entering) l_Network_entering cdw_Network_entering kp_Network_entering
  have b_Network_entering := F_Network_entering.binds (ps := ["self", "vertex"]) fun _ _ _ _ _ _ us hl => match us, hl with | [_, _], _ => rfl
  have F_Network_other_end := fun_mk (st := s_Network_other_end) l_Network_other_end cdw_Network_other_end kp_Network_other_end
  have b_Network_other_end := F_Network_other_end.binds (ps := ["self", "number", "vertex"]) fun _ _ _ _ _ _ us hl => match us, hl with | [_, _, _], _ => rfl
  have F_Network_with_price := fun_mk (st := s_Network_with_price) l_Network_with_price cdw_Network_with_price kp_Network_with_price
  have b_Network_with_price := F_Network_with_price.binds (ps := ["self", "number", "price"]) fun _ _ _ _ _ _ us hl => match us, hl with | [_, _, _], _ => rfl
  have F_write_network := fun_mk (st := s_write_network) l_write_network cdw_write_network kp_write_network
  have b_write_network := F_write_network.binds (ps := ["network"]) fun _ _ _ _ _ _ us hl => match us, hl with | [_], _ => rfl
  have F_is_number := fun_mk (st := s_is_number) l_is_number cdw_is_number kp_is_number
  have b_is_number := F_is_number.binds (ps := ["word"]) fun _ _ _ _ _ _ us hl => match us, hl with | [_], _ => rfl
  have F_read_line := fun_mk (st := s_read_line) l_read_line cdw_read_line kp_read_line
  have b_read_line := F_read_line.binds (ps := ["line", "at", "word", "many"]) fun _ _ _ _ _ _ us hl => match us, hl with | [_, _, _, _], _ => rfl
  have F_read_edge := fun_mk (st := s_read_edge) l_read_edge cdw_read_edge kp_read_edge
  have b_read_edge := F_read_edge.binds (ps := ["line", "at", "size"]) fun _ _ _ _ _ _ us hl => match us, hl with | [_, _, _], _ => rfl
  have F_read_network := fun_mk (st := s_read_network) l_read_network cdw_read_network kp_read_network
  have b_read_network := F_read_network.binds (ps := ["text"]) fun _ _ _ _ _ _ us hl => match us, hl with | [_], _ => rfl
  have F_law_draws := fun_mk (st := s_law_draws) l_law_draws cdw_law_draws kp_law_draws
  have b_law_draws := F_law_draws.binds (ps := ["script"]) fun _ _ _ _ _ _ us hl => match us, hl with | [_], _ => rfl
  have F_law_mix := fun_mk (st := s_law_mix) l_law_mix cdw_law_mix kp_law_mix
  have b_law_mix := F_law_mix.binds (ps := ["draws", "k", "many"]) fun _ _ _ _ _ _ us hl => match us, hl with | [_, _, _], _ => rfl
  have F_law_network := fun_mk (st := s_law_network) l_law_network cdw_law_network kp_law_network
  have b_law_network := F_law_network.binds (ps := ["draws", "k", "sizes", "many", "top"]) fun _ _ _ _ _ _ us hl => match us, hl with | [_, _, _, _, _], _ => rfl
  have F_law_text := fun_mk (st := s_law_text) l_law_text cdw_law_text kp_law_text
  have b_law_text := F_law_text.binds (ps := ["size", "edges"]) fun _ _ _ _ _ _ us hl => match us, hl with | [_, _], _ => rfl
  have F_law_number := fun_mk (st := s_law_number) l_law_number cdw_law_number kp_law_number
  have b_law_number := F_law_number.binds (ps := ["word"]) fun _ _ _ _ _ _ us hl => match us, hl with | [_], _ => rfl
  have F_law_row := fun_mk (st := s_law_row) l_law_row cdw_law_row kp_law_row
  have b_law_row := F_law_row.binds (ps := ["line", "head", "many"]) fun _ _ _ _ _ _ us hl => match us, hl with | [_, _, _], _ => rfl
  have F_law_read := fun_mk (st := s_law_read) l_law_read cdw_law_read kp_law_read
  have b_law_read := F_law_read.binds (ps := ["text"]) fun _ _ _ _ _ _ us hl => match us, hl with | [_], _ => rfl
  have F_law_told := fun_mk (st := s_law_told) l_law_told cdw_law_told kp_law_told
  have b_law_told := F_law_told.binds (ps := ["text"]) fun _ _ _ _ _ _ us hl => match us, hl with | [_], _ => rfl
  have F_law_changed := fun_mk (st := s_law_changed) l_law_changed cdw_law_changed kp_law_changed
  have b_law_changed := F_law_changed.binds (ps := ["draws", "k", "text"]) fun _ _ _ _ _ _ us hl => match us, hl with | [_, _, _], _ => rfl
  have F_law := fun_mk (st := s_law) l_law cdw_law kp_law
  have b_law := F_law.binds (ps := ["script"]) fun _ _ _ _ _ _ us hl => match us, hl with | [_], _ => rfl
  exact ⟨PySem.W.fnOf "law" "law" (defArgs s_law) (defBody s_law) (defScope s_law) .none kV_law dc_law pm_law an_law cd_law ct_law, fun s u => .of_eq rfl, fun base _ _ => ok_law (K := K) (mg := mg) {
    f_wall := f_wall,
    fd_wall := PySem.W.fnOf "_wall" "_wall" (defArgs s_wall) (defBody s_wall) (defScope s_wall) .none kV_wall dc_wall pm_wall an_wall cd_wall ct_wall,
    F_wall := F_wall,
    b_wall := b_wall,
    g_wall := PySem.W.mg_of X G a_wall,
    f_WebError___init__ := f_WebError___init__,
    fd_WebError___init__ := PySem.W.fnOf "__init__" "WebError.__init__" (defArgs s_WebError___init__) (defBody s_WebError___init__) (defScope s_WebError___init__) .none kV_WebError___init__ dc_WebError___init__ pm_WebError___init__ an_WebError___init__ cd_WebError___init__ ct_WebError___init__,
    F_WebError___init__ := F_WebError___init__,
    b_WebError___init__ := b_WebError___init__,
    f_is_size := f_is_size,
    fd_is_size := PySem.W.fnOf "is_size" "is_size" (defArgs s_is_size) (defBody s_is_size) (defScope s_is_size) .none kV_is_size dc_is_size pm_is_size an_is_size cd_is_size ct_is_size,
    F_is_size := F_is_size,
    b_is_size := b_is_size,
    g_is_size := PySem.W.mg_of X G a_is_size,
    f_is_price := f_is_price,
    fd_is_price := PySem.W.fnOf "is_price" "is_price" (defArgs s_is_price) (defBody s_is_price) (defScope s_is_price) .none kV_is_price dc_is_price pm_is_price an_is_price cd_is_price ct_is_price,
    F_is_price := F_is_price,
    b_is_price := b_is_price,
    g_is_price := PySem.W.mg_of X G a_is_price,
    f_are_ends := f_are_ends,
    fd_are_ends := PySem.W.fnOf "are_ends" "are_ends" (defArgs s_are_ends) (defBody s_are_ends) (defScope s_are_ends) .none kV_are_ends dc_are_ends pm_are_ends an_are_ends cd_are_ends ct_are_ends,
    F_are_ends := F_are_ends,
    b_are_ends := b_are_ends,
    g_are_ends := PySem.W.mg_of X G a_are_ends,
    f_Network___init__ := f_Network___init__,
    fd_Network___init__ := PySem.W.fnOf "__init__" "Network.__init__" (defArgs s_Network___init__) (defBody s_Network___init__) (defScope s_Network___init__) .none kV_Network___init__ dc_Network___init__ pm_Network___init__ an_Network___init__ cd_Network___init__ ct_Network___init__,
    F_Network___init__ := F_Network___init__,
    b_Network___init__ := b_Network___init__,
    f_Network_size := f_Network_size,
    fd_Network_size := PySem.W.fnOf "size" "Network.size" (defArgs s_Network_size) (defBody s_Network_size) (defScope s_Network_size) .none kV_Network_size dc_Network_size pm_Network_size an_Network_size cd_Network_size ct_Network_size,
    F_Network_size := F_Network_size,
    b_Network_size := b_Network_size,
    f_Network_edges := f_Network_edges,
    fd_Network_edges := PySem.W.fnOf "edges" "Network.edges" (defArgs s_Network_edges) (defBody s_Network_edges) (defScope s_Network_edges) .none kV_Network_edges dc_Network_edges pm_Network_edges an_Network_edges cd_Network_edges ct_Network_edges,
    F_Network_edges := F_Network_edges,
    b_Network_edges := b_Network_edges,
    f_Network_around := f_Network_around,
    fd_Network_around := PySem.W.fnOf "around" "Network.around" (defArgs s_Network_around) (defBody s_Network_around) (defScope s_Network_around) .none kV_Network_around dc_Network_around pm_Network_around an_Network_around cd_Network_around ct_Network_around,
    F_Network_around := F_Network_around,
    b_Network_around := b_Network_around,
    f_Network_leaving := f_Network_leaving,
    fd_Network_leaving := PySem.W.fnOf "leaving" "Network.leaving" (defArgs s_Network_leaving) (defBody s_Network_leaving) (defScope s_Network_leaving) .none kV_Network_leaving dc_Network_leaving pm_Network_leaving an_Network_leaving cd_Network_leaving ct_Network_leaving,
    F_Network_leaving := F_Network_leaving,
    b_Network_leaving := b_Network_leaving,
    f_Network_entering := f_Network_entering,
    fd_Network_entering := PySem.W.fnOf "entering" "Network.entering" (defArgs s_Network_entering) (defBody s_Network_entering) (defScope s_Network_entering) .none kV_Network_entering dc_Network_entering pm_Network_entering an_Network_entering cd_Network_entering ct_Network_entering,
    F_Network_entering := F_Network_entering,
    b_Network_entering := b_Network_entering,
    f_Network_other_end := f_Network_other_end,
    fd_Network_other_end := PySem.W.fnOf "other_end" "Network.other_end" (defArgs s_Network_other_end) (defBody s_Network_other_end) (defScope s_Network_other_end) .none kV_Network_other_end dc_Network_other_end pm_Network_other_end an_Network_other_end cd_Network_other_end ct_Network_other_end,
    F_Network_other_end := F_Network_other_end,
    b_Network_other_end := b_Network_other_end,
    f_Network_with_price := f_Network_with_price,
    fd_Network_with_price := PySem.W.fnOf "with_price" "Network.with_price" (defArgs s_Network_with_price) (defBody s_Network_with_price) (defScope s_Network_with_price) .none kV_Network_with_price dc_Network_with_price pm_Network_with_price an_Network_with_price cd_Network_with_price ct_Network_with_price,
    F_Network_with_price := F_Network_with_price,
    b_Network_with_price := b_Network_with_price,
    f_write_network := f_write_network,
    fd_write_network := PySem.W.fnOf "write_network" "write_network" (defArgs s_write_network) (defBody s_write_network) (defScope s_write_network) .none kV_write_network dc_write_network pm_write_network an_write_network cd_write_network ct_write_network,
    F_write_network := F_write_network,
    b_write_network := b_write_network,
    g_write_network := PySem.W.mg_of X G a_write_network,
    f_is_number := f_is_number,
    fd_is_number := PySem.W.fnOf "is_number" "is_number" (defArgs s_is_number) (defBody s_is_number) (defScope s_is_number) .none kV_is_number dc_is_number pm_is_number an_is_number cd_is_number ct_is_number,
    F_is_number := F_is_number,
    b_is_number := b_is_number,
    g_is_number := PySem.W.mg_of X G a_is_number,
    f_read_line := f_read_line,
    fd_read_line := PySem.W.fnOf "read_line" "read_line" (defArgs s_read_line) (defBody s_read_line) (defScope s_read_line) .none kV_read_line dc_read_line pm_read_line an_read_line cd_read_line ct_read_line,
    F_read_line := F_read_line,
    b_read_line := b_read_line,
    g_read_line := PySem.W.mg_of X G a_read_line,
    f_read_edge := f_read_edge,
    fd_read_edge := PySem.W.fnOf "read_edge" "read_edge" (defArgs s_read_edge) (defBody s_read_edge) (defScope s_read_edge) .none kV_read_edge dc_read_edge pm_read_edge an_read_edge cd_read_edge ct_read_edge,
    F_read_edge := F_read_edge,
    b_read_edge := b_read_edge,
    g_read_edge := PySem.W.mg_of X G a_read_edge,
    f_read_network := f_read_network,
    fd_read_network := PySem.W.fnOf "read_network" "read_network" (defArgs s_read_network) (defBody s_read_network) (defScope s_read_network) .none kV_read_network dc_read_network pm_read_network an_read_network cd_read_network ct_read_network,
    F_read_network := F_read_network,
    b_read_network := b_read_network,
    g_read_network := PySem.W.mg_of X G a_read_network,
    f_law_draws := f_law_draws,
    fd_law_draws := PySem.W.fnOf "_law_draws" "_law_draws" (defArgs s_law_draws) (defBody s_law_draws) (defScope s_law_draws) .none kV_law_draws dc_law_draws pm_law_draws an_law_draws cd_law_draws ct_law_draws,
    F_law_draws := F_law_draws,
    b_law_draws := b_law_draws,
    g_law_draws := PySem.W.mg_of X G a_law_draws,
    f_law_mix := f_law_mix,
    fd_law_mix := PySem.W.fnOf "_law_mix" "_law_mix" (defArgs s_law_mix) (defBody s_law_mix) (defScope s_law_mix) .none kV_law_mix dc_law_mix pm_law_mix an_law_mix cd_law_mix ct_law_mix,
    F_law_mix := F_law_mix,
    b_law_mix := b_law_mix,
    g_law_mix := PySem.W.mg_of X G a_law_mix,
    f_law_network := f_law_network,
    fd_law_network := PySem.W.fnOf "_law_network" "_law_network" (defArgs s_law_network) (defBody s_law_network) (defScope s_law_network) .none kV_law_network dc_law_network pm_law_network an_law_network cd_law_network ct_law_network,
    F_law_network := F_law_network,
    b_law_network := b_law_network,
    g_law_network := PySem.W.mg_of X G a_law_network,
    f_law_text := f_law_text,
    fd_law_text := PySem.W.fnOf "_law_text" "_law_text" (defArgs s_law_text) (defBody s_law_text) (defScope s_law_text) .none kV_law_text dc_law_text pm_law_text an_law_text cd_law_text ct_law_text,
    F_law_text := F_law_text,
    b_law_text := b_law_text,
    g_law_text := PySem.W.mg_of X G a_law_text,
    f_law_number := f_law_number,
    fd_law_number := PySem.W.fnOf "_law_number" "_law_number" (defArgs s_law_number) (defBody s_law_number) (defScope s_law_number) .none kV_law_number dc_law_number pm_law_number an_law_number cd_law_number ct_law_number,
    F_law_number := F_law_number,
    b_law_number := b_law_number,
    g_law_number := PySem.W.mg_of X G a_law_number,
    f_law_row := f_law_row,
    fd_law_row := PySem.W.fnOf "_law_row" "_law_row" (defArgs s_law_row) (defBody s_law_row) (defScope s_law_row) .none kV_law_row dc_law_row pm_law_row an_law_row cd_law_row ct_law_row,
    F_law_row := F_law_row,
    b_law_row := b_law_row,
    g_law_row := PySem.W.mg_of X G a_law_row,
    f_law_read := f_law_read,
    fd_law_read := PySem.W.fnOf "_law_read" "_law_read" (defArgs s_law_read) (defBody s_law_read) (defScope s_law_read) .none kV_law_read dc_law_read pm_law_read an_law_read cd_law_read ct_law_read,
    F_law_read := F_law_read,
    b_law_read := b_law_read,
    g_law_read := PySem.W.mg_of X G a_law_read,
    f_law_told := f_law_told,
    fd_law_told := PySem.W.fnOf "_law_told" "_law_told" (defArgs s_law_told) (defBody s_law_told) (defScope s_law_told) .none kV_law_told dc_law_told pm_law_told an_law_told cd_law_told ct_law_told,
    F_law_told := F_law_told,
    b_law_told := b_law_told,
    g_law_told := PySem.W.mg_of X G a_law_told,
    f_law_changed := f_law_changed,
    fd_law_changed := PySem.W.fnOf "_law_changed" "_law_changed" (defArgs s_law_changed) (defBody s_law_changed) (defScope s_law_changed) .none kV_law_changed dc_law_changed pm_law_changed an_law_changed cd_law_changed ct_law_changed,
    F_law_changed := F_law_changed,
    b_law_changed := b_law_changed,
    g_law_changed := PySem.W.mg_of X G a_law_changed,
    f_law := f_law,
    fd_law := PySem.W.fnOf "law" "law" (defArgs s_law) (defBody s_law) (defScope s_law) .none kV_law dc_law pm_law an_law cd_law ct_law,
    F_law := F_law,
    b_law := b_law,
    g_law := PySem.W.mg_of X G a_law,
    c_Network := c_Network,
    g_Network := PySem.W.mg_of X G aC_Network,
    cl_Network := ⟨pg_Network, hd_Network, po_Network, sa_Network⟩,
    mk_Network := ⟨mk_Network, a_Network___init__, i_Network___init__, kc_Network⟩,
    m_Network_size := ⟨a_Network_size, i_Network_size, kp_Network_size⟩,
    m_Network_edges := ⟨a_Network_edges, i_Network_edges, kp_Network_edges⟩,
    m_Network_around := ⟨a_Network_around, i_Network_around, kp_Network_around⟩,
    m_Network_leaving := ⟨a_Network_leaving, i_Network_leaving, kp_Network_leaving⟩,
    m_Network_entering := ⟨a_Network_entering, i_Network_entering, kp_Network_entering⟩,
    m_Network_other_end := ⟨a_Network_other_end, i_Network_other_end, kp_Network_other_end⟩,
    m_Network_with_price := ⟨a_Network_with_price, i_Network_with_price, kp_Network_with_price⟩,
    na_Network__size := na_Network__size,
    na_Network__edges := na_Network__edges,
    c_WebError := c_WebError,
    x_WebError := ⟨⟨⟨_, _, _, _, _, _, _, _, _, _, _, _, _, _, _, xL_WebError, rv_WebError⟩, sa_WebError, eC_WebError, tC_WebError, kC_WebError⟩, nb_WebError, in_WebError, ty_WebError___init__, PySem.W.mg_of X G aC_WebError⟩,
    e_WebError := ⟨ga_WebError, gg_WebError, eC_WebError, hC_WebError, cl_WebError, gt, tk, mr_WebError⟩,
    ef_WebError := ⟨ga_WebError, gg_WebError, eC_WebError, hC_WebError⟩,
    c_OutOfRange := c_OutOfRange,
    x_OutOfRange := ⟨⟨⟨_, _, _, _, _, _, _, _, _, _, _, _, _, _, _, xL_OutOfRange, rv_OutOfRange⟩, sa_OutOfRange, eC_OutOfRange, tC_OutOfRange, kC_OutOfRange⟩, nb_OutOfRange, in_OutOfRange, ty_WebError___init__, PySem.W.mg_of X G aC_OutOfRange⟩,
    e_OutOfRange := ⟨ga_OutOfRange, gg_OutOfRange, eC_OutOfRange, hC_OutOfRange, cl_OutOfRange, gt, tk, mr_OutOfRange⟩,
    ef_OutOfRange := ⟨ga_OutOfRange, gg_OutOfRange, eC_OutOfRange, hC_OutOfRange⟩,
    em_OutOfRange := Z.exm_of eC_WebError ib tC_WebError sb_OutOfRange,
    is_OutOfRange_OutOfRange := is_OutOfRange_OutOfRange,
    is_OutOfRange_BadLine := is_OutOfRange_BadLine,
    is_OutOfRange_BadVertex := is_OutOfRange_BadVertex,
    is_OutOfRange_BadPrice := is_OutOfRange_BadPrice,
    is_OutOfRange_TooMany := is_OutOfRange_TooMany,
    c_BadLine := c_BadLine,
    x_BadLine := ⟨⟨⟨_, _, _, _, _, _, _, _, _, _, _, _, _, _, _, xL_BadLine, rv_BadLine⟩, sa_BadLine, eC_BadLine, tC_BadLine, kC_BadLine⟩, nb_BadLine, in_BadLine, ty_WebError___init__, PySem.W.mg_of X G aC_BadLine⟩,
    e_BadLine := ⟨ga_BadLine, gg_BadLine, eC_BadLine, hC_BadLine, cl_BadLine, gt, tk, mr_BadLine⟩,
    ef_BadLine := ⟨ga_BadLine, gg_BadLine, eC_BadLine, hC_BadLine⟩,
    em_BadLine := Z.exm_of eC_WebError ib tC_WebError sb_BadLine,
    is_BadLine_OutOfRange := is_BadLine_OutOfRange,
    is_BadLine_BadLine := is_BadLine_BadLine,
    is_BadLine_BadVertex := is_BadLine_BadVertex,
    is_BadLine_BadPrice := is_BadLine_BadPrice,
    is_BadLine_TooMany := is_BadLine_TooMany,
    c_BadVertex := c_BadVertex,
    x_BadVertex := ⟨⟨⟨_, _, _, _, _, _, _, _, _, _, _, _, _, _, _, xL_BadVertex, rv_BadVertex⟩, sa_BadVertex, eC_BadVertex, tC_BadVertex, kC_BadVertex⟩, nb_BadVertex, in_BadVertex, ty_WebError___init__, PySem.W.mg_of X G aC_BadVertex⟩,
    e_BadVertex := ⟨ga_BadVertex, gg_BadVertex, eC_BadVertex, hC_BadVertex, cl_BadVertex, gt, tk, mr_BadVertex⟩,
    ef_BadVertex := ⟨ga_BadVertex, gg_BadVertex, eC_BadVertex, hC_BadVertex⟩,
    em_BadVertex := Z.exm_of eC_WebError ib tC_WebError sb_BadVertex,
    is_BadVertex_OutOfRange := is_BadVertex_OutOfRange,
    is_BadVertex_BadLine := is_BadVertex_BadLine,
    is_BadVertex_BadVertex := is_BadVertex_BadVertex,
    is_BadVertex_BadPrice := is_BadVertex_BadPrice,
    is_BadVertex_TooMany := is_BadVertex_TooMany,
    c_BadPrice := c_BadPrice,
    x_BadPrice := ⟨⟨⟨_, _, _, _, _, _, _, _, _, _, _, _, _, _, _, xL_BadPrice, rv_BadPrice⟩, sa_BadPrice, eC_BadPrice, tC_BadPrice, kC_BadPrice⟩, nb_BadPrice, in_BadPrice, ty_WebError___init__, PySem.W.mg_of X G aC_BadPrice⟩,
    e_BadPrice := ⟨ga_BadPrice, gg_BadPrice, eC_BadPrice, hC_BadPrice, cl_BadPrice, gt, tk, mr_BadPrice⟩,
    ef_BadPrice := ⟨ga_BadPrice, gg_BadPrice, eC_BadPrice, hC_BadPrice⟩,
    em_BadPrice := Z.exm_of eC_WebError ib tC_WebError sb_BadPrice,
    is_BadPrice_OutOfRange := is_BadPrice_OutOfRange,
    is_BadPrice_BadLine := is_BadPrice_BadLine,
    is_BadPrice_BadVertex := is_BadPrice_BadVertex,
    is_BadPrice_BadPrice := is_BadPrice_BadPrice,
    is_BadPrice_TooMany := is_BadPrice_TooMany,
    c_TooMany := c_TooMany,
    x_TooMany := ⟨⟨⟨_, _, _, _, _, _, _, _, _, _, _, _, _, _, _, xL_TooMany, rv_TooMany⟩, sa_TooMany, eC_TooMany, tC_TooMany, kC_TooMany⟩, nb_TooMany, in_TooMany, ty_WebError___init__, PySem.W.mg_of X G aC_TooMany⟩,
    e_TooMany := ⟨ga_TooMany, gg_TooMany, eC_TooMany, hC_TooMany, cl_TooMany, gt, tk, mr_TooMany⟩,
    ef_TooMany := ⟨ga_TooMany, gg_TooMany, eC_TooMany, hC_TooMany⟩,
    em_TooMany := Z.exm_of eC_WebError ib tC_WebError sb_TooMany,
    is_TooMany_OutOfRange := is_TooMany_OutOfRange,
    is_TooMany_BadLine := is_TooMany_BadLine,
    is_TooMany_BadVertex := is_TooMany_BadVertex,
    is_TooMany_BadPrice := is_TooMany_BadPrice,
    is_TooMany_TooMany := is_TooMany_TooMany,
    z_len := PySem.W.mg_none_of X G z_len,
    z_range := PySem.W.mg_none_of X G z_range,
    z_min := PySem.W.mg_none_of X G z_min,
    z_abs := PySem.W.mg_none_of X G z_abs,
    z_int := PySem.W.mg_none_of X G z_int,
    z_list := PySem.W.mg_none_of X G z_list,
    z_enumerate := PySem.W.mg_none_of X G z_enumerate,
    z_isinstance := PySem.W.mg_none_of X G z_isinstance,
    z_str := PySem.W.mg_none_of X G z_str,
    z_tuple := PySem.W.mg_none_of X G z_tuple,
    z_ValueError := PySem.W.mg_none_of X G z_ValueError,
    t_MOST_VERTICES := t_MOST_VERTICES,
    k_MOST_VERTICES := PySem.W.mg_of X G k_MOST_VERTICES,
    t_MOST_EDGES := t_MOST_EDGES,
    k_MOST_EDGES := PySem.W.mg_of X G k_MOST_EDGES,
    t_MOST_PRICE := t_MOST_PRICE,
    k_MOST_PRICE := PySem.W.mg_of X G k_MOST_PRICE,
    t_MOST_DIGITS := t_MOST_DIGITS,
    k_MOST_DIGITS := PySem.W.mg_of X G k_MOST_DIGITS }⟩
theorem walk {l : PySem.W.OpenLaw} {q : Program} {loose : List Str} {XP : (Str → Option Value) → Heap → Prop} {YP : World → Heap → Prop} {d : DefRec} {K : Params → PySem.W.Frag} (hn : l.most = some 63) (hdf : d.params.defaults = [])
    (hY : ∀ (w : World) (h : Heap), YP w h → (K w.params).In h)
    (F : ∀ (w : World) (mg : Str → Option Value) (fa : Addr) (h : Heap), (K w.params).In h → h.Ns mainGlobals mg → mg d.name = some (.ref fa) →
      ∃ fd : FuncData, (∀ (s : Shared) (u : Value), BindsTo s fd ⟨[u], []⟩ [("script", u)]) ∧ ∀ base : Heap, (K w.params).In base → base.Ns mainGlobals mg → Z.RunAt l.prog w (K w.params) mg base (L2.CX l.prog w) 7 fa fd ["script"] (spLaw (K w.params))) :
    PySem.W.WalkO q loose XP YP l.row.toRowW d [] (fun f vs => PySem.call f vs) :=
  Z.walk_at (n := 63) (k := 7) (x := "script") (CX := fun w => L2.CX l.prog w) (sp := fun w => spLaw (K w.params)) hn (by decide) hdf ⟨rfl, by decide, by decide⟩ hY F
    (fun w H a ns hn hS => ⟨ns, H, [], hn, Z.Lay.nil, .cons ⟨a, rfl, hS⟩ .nil, fun G' H' v _ _ hv => by cases hv; rfl⟩)
    (fun w H s e s' z => by
      obtain ⟨_, _, _, _, _, _, _, _, _, _, _, _, z⟩ := z
      exact z)
end Q

set_option Elab.async false
open PySem PySem.W PyProof.Rows in
set_option maxRecDepth 100000 in
set_option maxHeartbeats 0 in
theorem PySem.Challenge.cw_trunkweb_k01_texts_of_networks_holds : PySem.Challenge.rw_trunkweb_k01_texts_of_networks.Holds := by
  w_on; o_law; k_head; (case hw => w_witness2)
  k_fill
  refine Q.walk (l := PySem.Challenge.rw_trunkweb_k01_texts_of_networks) rfl rfl (fun w h Y => PySem.W.kIn_of Y) ?F
  case F =>
    intro w mg fa h KX G hmg
    refine' Q.all_mk KX G hmg ?aC_Network ?aC_WebError ?aC_OutOfRange ?aC_BadLine ?aC_BadVertex ?aC_BadPrice ?aC_TooMany ?a_wall ?l_wall ?cdw_wall ?kp_wall ?a_WebError___init__ ?ty_WebError___init__ ?l_WebError___init__ ?cdw_WebError___init__ ?kp_WebError___init__ ?a_is_size ?l_is_size ?cdw_is_size ?kp_is_size ?a_is_price ?l_is_price ?cdw_is_price ?kp_is_price ?a_are_ends ?l_are_ends ?cdw_are_ends ?kp_are_ends ?a_Network___init__ ?i_Network___init__ ?l_Network___init__ ?cdw_Network___init__ ?kp_Network___init__ ?a_Network_size ?i_Network_size ?l_Network_size ?cdw_Network_size ?kp_Network_size ?a_Network_edges ?i_Network_edges ?l_Network_edges ?cdw_Network_edges ?kp_Network_edges ?a_Network_around ?i_Network_around ?l_Network_around ?cdw_Network_around ?kp_Network_around ?a_Network_leaving ?i_Network_leaving ?l_Network_leaving ?cdw_Network_leaving ?kp_Network_leaving ?a_Network_entering ?i_Network_entering ?l_Network_entering ?cdw_Network_entering ?kp_Network_entering ?a_Network_other_end ?i_Network_other_end ?l_Network_other_end ?cdw_Network_other_end ?kp_Network_other_end ?a_Network_with_price ?i_Network_with_price ?l_Network_with_price ?cdw_Network_with_price ?kp_Network_with_price ?a_write_network ?l_write_network ?cdw_write_network ?kp_write_network ?a_is_number ?l_is_number ?cdw_is_number ?kp_is_number ?a_read_line ?l_read_line ?cdw_read_line ?kp_read_line ?a_read_edge ?l_read_edge ?cdw_read_edge ?kp_read_edge ?a_read_network ?l_read_network ?cdw_read_network ?kp_read_network ?a_law_draws ?l_law_draws ?cdw_law_draws ?kp_law_draws ?a_law_mix ?l_law_mix ?cdw_law_mix ?kp_law_mix ?a_law_network ?l_law_network ?cdw_law_network ?kp_law_network ?a_law_text ?l_law_text ?cdw_law_text ?kp_law_text ?a_law_number ?l_law_number ?cdw_law_number ?kp_law_number ?a_law_row ?l_law_row ?cdw_law_row ?kp_law_row ?a_law_read ?l_law_read ?cdw_law_read ?kp_law_read ?a_law_told ?l_law_told ?cdw_law_told ?kp_law_told ?a_law_changed ?l_law_changed ?cdw_law_changed ?kp_law_changed ?a_law ?l_law ?cdw_law ?kp_law ?pg_Network ?hd_Network ?po_Network ?sa_Network ?mk_Network ?kc_Network ?na_Network__size ?na_Network__edges ?gt ?tk ?ib ?xL_WebError ?rv_WebError ?sa_WebError ?ga_WebError ?gg_WebError ?nb_WebError ?in_WebError ?eC_WebError ?tC_WebError ?hC_WebError ?kC_WebError ?cl_WebError ?mr_WebError ?xL_OutOfRange ?rv_OutOfRange ?sa_OutOfRange ?ga_OutOfRange ?gg_OutOfRange ?nb_OutOfRange ?in_OutOfRange ?eC_OutOfRange ?tC_OutOfRange ?hC_OutOfRange ?kC_OutOfRange ?cl_OutOfRange ?mr_OutOfRange ?sb_OutOfRange ?is_OutOfRange_OutOfRange ?is_OutOfRange_BadLine ?is_OutOfRange_BadVertex ?is_OutOfRange_BadPrice ?is_OutOfRange_TooMany ?xL_BadLine ?rv_BadLine ?sa_BadLine ?ga_BadLine ?gg_BadLine ?nb_BadLine ?in_BadLine ?eC_BadLine ?tC_BadLine ?hC_BadLine ?kC_BadLine ?cl_BadLine ?mr_BadLine ?sb_BadLine ?is_BadLine_OutOfRange ?is_BadLine_BadLine ?is_BadLine_BadVertex ?is_BadLine_BadPrice ?is_BadLine_TooMany ?xL_BadVertex ?rv_BadVertex ?sa_BadVertex ?ga_BadVertex ?gg_BadVertex ?nb_BadVertex ?in_BadVertex ?eC_BadVertex ?tC_BadVertex ?hC_BadVertex ?kC_BadVertex ?cl_BadVertex ?mr_BadVertex ?sb_BadVertex ?is_BadVertex_OutOfRange ?is_BadVertex_BadLine ?is_BadVertex_BadVertex ?is_BadVertex_BadPrice ?is_BadVertex_TooMany ?xL_BadPrice ?rv_BadPrice ?sa_BadPrice ?ga_BadPrice ?gg_BadPrice ?nb_BadPrice ?in_BadPrice ?eC_BadPrice ?tC_BadPrice ?hC_BadPrice ?kC_BadPrice ?cl_BadPrice ?mr_BadPrice ?sb_BadPrice ?is_BadPrice_OutOfRange ?is_BadPrice_BadLine ?is_BadPrice_BadVertex ?is_BadPrice_BadPrice ?is_BadPrice_TooMany ?xL_TooMany ?rv_TooMany ?sa_TooMany ?ga_TooMany ?gg_TooMany ?nb_TooMany ?in_TooMany ?eC_TooMany ?tC_TooMany ?hC_TooMany ?kC_TooMany ?cl_TooMany ?mr_TooMany ?sb_TooMany ?is_TooMany_OutOfRange ?is_TooMany_BadLine ?is_TooMany_BadVertex ?is_TooMany_BadPrice ?is_TooMany_TooMany ?z_len ?z_range ?z_min ?z_abs ?z_int ?z_list ?z_enumerate ?z_isinstance ?z_str ?z_tuple ?z_ValueError ?k_MOST_VERTICES ?k_MOST_EDGES ?k_MOST_PRICE ?k_MOST_DIGITS
    (case aC_Network => k_is)
    (case aC_WebError => k_is)
    (case aC_OutOfRange => k_is)
    (case aC_BadLine => k_is)
    (case aC_BadVertex => k_is)
    (case aC_BadPrice => k_is)
    (case aC_TooMany => k_is)
    (case a_wall => k_is)
    (case l_wall => k_is)
    (case cdw_wall => k_is)
    (case kp_wall => k_is)
    (case a_WebError___init__ => k_is)
    (case ty_WebError___init__ => k_is)
    (case l_WebError___init__ => k_is)
    (case cdw_WebError___init__ => k_is)
    (case kp_WebError___init__ => k_is)
    (case a_is_size => k_is)
    (case l_is_size => k_is)
    (case cdw_is_size => k_is)
    (case kp_is_size => k_is)
    (case a_is_price => k_is)
    (case l_is_price => k_is)
    (case cdw_is_price => k_is)
    (case kp_is_price => k_is)
    (case a_are_ends => k_is)
    (case l_are_ends => k_is)
    (case cdw_are_ends => k_is)
    (case kp_are_ends => k_is)
    (case a_Network___init__ => k_is)
    (case i_Network___init__ => k_is)
    (case l_Network___init__ => k_is)
    (case cdw_Network___init__ => k_is)
    (case kp_Network___init__ => k_is)
    (case a_Network_size => k_is)
    (case i_Network_size => k_is)
    (case l_Network_size => k_is)
    (case cdw_Network_size => k_is)
    (case kp_Network_size => k_is)
    (case a_Network_edges => k_is)
    (case i_Network_edges => k_is)
    (case l_Network_edges => k_is)
    (case cdw_Network_edges => k_is)
    (case kp_Network_edges => k_is)
    (case a_Network_around => k_is)
    (case i_Network_around => k_is)
    (case l_Network_around => k_is)
    (case cdw_Network_around => k_is)
    (case kp_Network_around => k_is)
    (case a_Network_leaving => k_is)
    (case i_Network_leaving => k_is)
    (case l_Network_leaving => k_is)
    (case cdw_Network_leaving => k_is)
    (case kp_Network_leaving => k_is)
    (case a_Network_entering => k_is)
    (case i_Network_entering => k_is)
    (case l_Network_entering => k_is)
    (case cdw_Network_entering => k_is)
    (case kp_Network_entering => k_is)
    (case a_Network_other_end => k_is)
    (case i_Network_other_end => k_is)
    (case l_Network_other_end => k_is)
    (case cdw_Network_other_end => k_is)
    (case kp_Network_other_end => k_is)
    (case a_Network_with_price => k_is)
    (case i_Network_with_price => k_is)
    (case l_Network_with_price => k_is)
    (case cdw_Network_with_price => k_is)
    (case kp_Network_with_price => k_is)
    (case a_write_network => k_is)
    (case l_write_network => k_is)
    (case cdw_write_network => k_is)
    (case kp_write_network => k_is)
    (case a_is_number => k_is)
    (case l_is_number => k_is)
    (case cdw_is_number => k_is)
    (case kp_is_number => k_is)
    (case a_read_line => k_is)
    (case l_read_line => k_is)
    (case cdw_read_line => k_is)
    (case kp_read_line => k_is)
    (case a_read_edge => k_is)
    (case l_read_edge => k_is)
    (case cdw_read_edge => k_is)
    (case kp_read_edge => k_is)
    (case a_read_network => k_is)
    (case l_read_network => k_is)
    (case cdw_read_network => k_is)
    (case kp_read_network => k_is)
    (case a_law_draws => k_is)
    (case l_law_draws => k_is)
    (case cdw_law_draws => k_is)
    (case kp_law_draws => k_is)
    (case a_law_mix => k_is)
    (case l_law_mix => k_is)
    (case cdw_law_mix => k_is)
    (case kp_law_mix => k_is)
    (case a_law_network => k_is)
    (case l_law_network => k_is)
    (case cdw_law_network => k_is)
    (case kp_law_network => k_is)
    (case a_law_text => k_is)
    (case l_law_text => k_is)
    (case cdw_law_text => k_is)
    (case kp_law_text => k_is)
    (case a_law_number => k_is)
    (case l_law_number => k_is)
    (case cdw_law_number => k_is)
    (case kp_law_number => k_is)
    (case a_law_row => k_is)
    (case l_law_row => k_is)
    (case cdw_law_row => k_is)
    (case kp_law_row => k_is)
    (case a_law_read => k_is)
    (case l_law_read => k_is)
    (case cdw_law_read => k_is)
    (case kp_law_read => k_is)
    (case a_law_told => k_is)
    (case l_law_told => k_is)
    (case cdw_law_told => k_is)
    (case kp_law_told => k_is)
    (case a_law_changed => k_is)
    (case l_law_changed => k_is)
    (case cdw_law_changed => k_is)
    (case kp_law_changed => k_is)
    (case a_law => k_is)
    (case l_law => k_is)
    (case cdw_law => k_is)
    (case kp_law => k_is)
    (case pg_Network => k_is)
    (case hd_Network => k_is)
    (case po_Network => k_is)
    (case sa_Network => k_is)
    (case mk_Network => k_is)
    (case kc_Network => k_is)
    (case na_Network__size => k_is)
    (case na_Network__edges => k_is)
    (case gt => k_is)
    (case tk => k_is)
    (case ib => k_is)
    (case xL_WebError => k_is)
    (case rv_WebError => first | rfl | decide +kernel)
    (case sa_WebError => k_is)
    (case ga_WebError => k_is)
    (case gg_WebError => k_is)
    (case nb_WebError => k_is)
    (case in_WebError => k_is)
    (case eC_WebError => k_is)
    (case tC_WebError => k_is)
    (case hC_WebError => k_is)
    (case kC_WebError => k_is)
    (case cl_WebError => k_is)
    (case mr_WebError => k_is)
    (case xL_OutOfRange => k_is)
    (case rv_OutOfRange => first | rfl | decide +kernel)
    (case sa_OutOfRange => k_is)
    (case ga_OutOfRange => k_is)
    (case gg_OutOfRange => k_is)
    (case nb_OutOfRange => k_is)
    (case in_OutOfRange => k_is)
    (case eC_OutOfRange => k_is)
    (case tC_OutOfRange => k_is)
    (case hC_OutOfRange => k_is)
    (case kC_OutOfRange => k_is)
    (case cl_OutOfRange => k_is)
    (case mr_OutOfRange => k_is)
    (case sb_OutOfRange => k_is)
    (case is_OutOfRange_OutOfRange => kit_is)
    (case is_OutOfRange_BadLine => kit_is)
    (case is_OutOfRange_BadVertex => kit_is)
    (case is_OutOfRange_BadPrice => kit_is)
    (case is_OutOfRange_TooMany => kit_is)
    (case xL_BadLine => k_is)
    (case rv_BadLine => first | rfl | decide +kernel)
    (case sa_BadLine => k_is)
    (case ga_BadLine => k_is)
    (case gg_BadLine => k_is)
    (case nb_BadLine => k_is)
    (case in_BadLine => k_is)
    (case eC_BadLine => k_is)
    (case tC_BadLine => k_is)
    (case hC_BadLine => k_is)
    (case kC_BadLine => k_is)
    (case cl_BadLine => k_is)
    (case mr_BadLine => k_is)
    (case sb_BadLine => k_is)
    (case is_BadLine_OutOfRange => kit_is)
    (case is_BadLine_BadLine => kit_is)
    (case is_BadLine_BadVertex => kit_is)
    (case is_BadLine_BadPrice => kit_is)
    (case is_BadLine_TooMany => kit_is)
    (case xL_BadVertex => k_is)
    (case rv_BadVertex => first | rfl | decide +kernel)
    (case sa_BadVertex => k_is)
    (case ga_BadVertex => k_is)
    (case gg_BadVertex => k_is)
    (case nb_BadVertex => k_is)
    (case in_BadVertex => k_is)
    (case eC_BadVertex => k_is)
    (case tC_BadVertex => k_is)
    (case hC_BadVertex => k_is)
    (case kC_BadVertex => k_is)
    (case cl_BadVertex => k_is)
    (case mr_BadVertex => k_is)
    (case sb_BadVertex => k_is)
    (case is_BadVertex_OutOfRange => kit_is)
    (case is_BadVertex_BadLine => kit_is)
    (case is_BadVertex_BadVertex => kit_is)
    (case is_BadVertex_BadPrice => kit_is)
    (case is_BadVertex_TooMany => kit_is)
    (case xL_BadPrice => k_is)
    (case rv_BadPrice => first | rfl | decide +kernel)
    (case sa_BadPrice => k_is)
    (case ga_BadPrice => k_is)
    (case gg_BadPrice => k_is)
    (case nb_BadPrice => k_is)
    (case in_BadPrice => k_is)
    (case eC_BadPrice => k_is)
    (case tC_BadPrice => k_is)
    (case hC_BadPrice => k_is)
    (case kC_BadPrice => k_is)
    (case cl_BadPrice => k_is)
    (case mr_BadPrice => k_is)
    (case sb_BadPrice => k_is)
    (case is_BadPrice_OutOfRange => kit_is)
    (case is_BadPrice_BadLine => kit_is)
    (case is_BadPrice_BadVertex => kit_is)
    (case is_BadPrice_BadPrice => kit_is)
    (case is_BadPrice_TooMany => kit_is)
    (case xL_TooMany => k_is)
    (case rv_TooMany => first | rfl | decide +kernel)
    (case sa_TooMany => k_is)
    (case ga_TooMany => k_is)
    (case gg_TooMany => k_is)
    (case nb_TooMany => k_is)
    (case in_TooMany => k_is)
    (case eC_TooMany => k_is)
    (case tC_TooMany => k_is)
    (case hC_TooMany => k_is)
    (case kC_TooMany => k_is)
    (case cl_TooMany => k_is)
    (case mr_TooMany => k_is)
    (case sb_TooMany => k_is)
    (case is_TooMany_OutOfRange => kit_is)
    (case is_TooMany_BadLine => kit_is)
    (case is_TooMany_BadVertex => kit_is)
    (case is_TooMany_BadPrice => kit_is)
    (case is_TooMany_TooMany => kit_is)
    (case z_len => k_is)
    (case z_range => k_is)
    (case z_min => k_is)
    (case z_abs => k_is)
    (case z_int => k_is)
    (case z_list => k_is)
    (case z_enumerate => k_is)
    (case z_isinstance => k_is)
    (case z_str => k_is)
    (case z_tuple => k_is)
    (case z_ValueError => k_is)
    (case k_MOST_VERTICES => k_is)
    (case k_MOST_EDGES => k_is)
    (case k_MOST_PRICE => k_is)
    (case k_MOST_DIGITS => k_is)

